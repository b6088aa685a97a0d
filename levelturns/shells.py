"""Shells, which lead a desk by lines."""

from levelturns.answers import told
from levelturns.desks import Desk
from levelturns.errors import LevelError, Unfit
from levelturns.leaguetexts import LETTERS, league_text, letters_of, read_league, sides_of
from levelturns.rankings import order_of

# The lines of one word, and the words behind which a blank and any text stand.
ALONE = ("rise", "fall", "undo", "redo", "show", "wins", "rings", "sign", "rows", "open", "order", "ends")
WITH_TEXT = ("league", "joined", "far")
DEEDS = ("turn", "rise", "fall", "undo", "redo")


class Shell:
    """Leads a desk by lines; at first it has none."""

    def __init__(self):
        self._desk = None

    def say(self, line):
        """Return the answer to line, any value; raise nothing."""
        if not _is_line(line):
            return "what"
        word, _, text = line.partition(" ")
        if self._desk is None and word != "league":
            return "no league"
        try:
            if word == "league":
                self._desk = Desk(read_league(text))
                return _version_text(self._desk.version)
            return _answer(self._desk, word, text)
        except LevelError as error:
            return "error " + type(error).__name__


def _is_line(value):
    """Return whether value is one of the lines that a shell takes."""
    if not isinstance(value, str):
        return False
    word, blank, text = value.partition(" ")
    if word in WITH_TEXT:
        return blank == " "
    if word == "turn":
        return text in [one + " " + other for one in LETTERS for other in LETTERS]
    return value in ALONE


def _version_text(version):
    return "version " + str(version)


def _answer(desk, word, text):
    if word in DEEDS:
        return _version_text(_edited(desk, word, text))
    return _looked(desk.league, word, text)


def _edited(desk, word, text):
    """Do the deed of this word at desk; return the version then."""
    if word == "rise":
        return desk.rise()
    if word == "fall":
        return desk.fall()
    if word == "undo":
        return desk.undo()
    if word == "redo":
        return desk.redo()
    a, b = sides_of(text.split(" "))
    return desk.turn(a, b)


def _looked(league, word, text):
    """Return what the look of this word tells of league."""
    if word == "show":
        return league_text(league)
    if word == "order":
        order = order_of(league)
        return "none" if order is None else letters_of(order)
    if word in WITH_TEXT:
        return told(word, [league, _read_beside(league, text)])
    return told(word, [league])


def _read_beside(league, text):
    """Return the league that is read in text; raise Unfit() if it has not as many sides as league."""
    other = read_league(text)
    if len(other) != len(league):
        raise Unfit()
    return other
