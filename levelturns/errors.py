"""The errors of the package: one class for each kind of failure."""


class LevelError(ValueError):
    """What all errors of this package are."""


class Unfit(LevelError):
    """There is nothing that fits what was asked for."""

    def __init__(self):
        super().__init__()


class BadText(LevelError):
    """given is the text of no league."""

    def __init__(self, given):
        super().__init__("not the text of a league")
        self.given = given


class BadLine(LevelError):
    """The line at this place cannot stand in a book; -1 if there are no lines at all."""

    def __init__(self, place):
        super().__init__("a line that cannot stand in a book")
        self.place = place


class Refused(LevelError):
    """turn is no turn that can be done."""

    def __init__(self, turn):
        super().__init__("not a turn that can be done")
        self.turn = turn


class TooMany(LevelError):
    """There are more than limit."""

    def __init__(self, limit):
        super().__init__("more than the limit")
        self.limit = limit


class BadLeague(LevelError):
    """error is what is wrong with what should be a league."""

    def __init__(self, error):
        super().__init__("not a league")
        self.error = error


class BadLog(LevelError):
    """The item of a log at this place cannot be done."""

    def __init__(self, place):
        super().__init__("a log with an item that cannot be done")
        self.place = place


class TooManyEdits(LevelError):
    """No further edit may stand."""

    def __init__(self):
        super().__init__()


class NothingToUndo(LevelError):
    """No edit stands."""

    def __init__(self):
        super().__init__()


class NothingToRedo(LevelError):
    """No edit was taken back."""

    def __init__(self):
        super().__init__()


class NoVersion(LevelError):
    """given is no version of the desk."""

    def __init__(self, given):
        super().__init__("not a version of the desk")
        self.given = given
