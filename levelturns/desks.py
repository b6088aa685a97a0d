"""Desks: leagues that are edited by turns, which can be taken back and done again."""

from levelturns.basics import is_integer, is_pair_of_sides, match_of
from levelturns.bounds import MAX_EDITS
from levelturns.errors import BadLeague, BadLog, NothingToRedo, NothingToUndo, NoVersion, TooManyEdits, Unfit
from levelturns.leagues import league_error, wins
from levelturns.rankings import order_of
from levelturns.rings import ring_count
from levelturns.risings import row_count
from levelturns.signs import sign
from levelturns.turns import done, open_falls, open_rises, turn_error


class Desk:
    """Keeps a league that is edited by turns."""

    def __init__(self, value):
        error = league_error(value)
        if error is not None:
            raise BadLeague(error)
        # The leagues behind 0, 1, .. edits, and these edits; those that were taken back stay at the end.
        self._leagues = (value,)
        self._turns = ()
        self._version = 0

    @property
    def league(self):
        """The present league."""
        return self._leagues[self._version]

    @property
    def wins(self):
        """The wins of all sides, in order."""
        return wins(self.league)

    @property
    def rings(self):
        """How many rings the present league has."""
        return ring_count(self.league)

    @property
    def sign(self):
        """The sign of the present league."""
        return sign(self.league)

    @property
    def version(self):
        """How many edits stand."""
        return self._version

    @property
    def log(self):
        """The edits that stand, in order."""
        return self._turns[:self._version]

    def turn(self, a, b):
        """Do the turn of a and b; return the new version."""
        if not is_pair_of_sides((a, b), len(self.league)):
            raise Unfit()
        return self._edit(match_of(a, b))

    def rise(self):
        """Do the least rise that can be done; return the new version."""
        return self._edit_first(open_rises(self.league))

    def fall(self):
        """Do the least fall that can be done; return the new version."""
        return self._edit_first(open_falls(self.league))

    def _edit_first(self, turns):
        if not turns:
            raise Unfit()
        return self._edit(turns[0])

    def _edit(self, turn):
        behind = done(self.league, turn)
        if self._version == MAX_EDITS:
            raise TooManyEdits()
        self._leagues = (*self._leagues[:self._version + 1], behind)
        self._turns = (*self._turns[:self._version], turn)
        self._version += 1
        return self._version

    def undo(self):
        """Take back the last edit that stands; return the version then."""
        if self._version == 0:
            raise NothingToUndo()
        self._version -= 1
        return self._version

    def redo(self):
        """Do again what was taken back last; return the version then."""
        if self._version == len(self._turns):
            raise NothingToRedo()
        self._version += 1
        return self._version

    def at(self, version):
        """Return the league when so many edits stood."""
        if not is_integer(version) or not 0 <= version <= self._version:
            raise NoVersion(version)
        return self._leagues[version]

    def left(self):
        """Return how many whole rows of rises the present league has."""
        return row_count(self.league)

    def is_ranking(self):
        """Return whether the present league is a ranking."""
        return order_of(self.league) is not None

    def copy(self):
        """Return a desk with the same league and edits, which from then on goes its own way."""
        twin = Desk(self.league)
        twin._leagues = self._leagues
        twin._turns = self._turns
        twin._version = self._version
        return twin

    def __eq__(self, other):
        return isinstance(other, Desk) and self.league == other.league


def desk_behind(value, log):
    """Return a new desk of the league value, on which the turns of log were done."""
    desk = Desk(value)
    if not isinstance(log, tuple):
        raise BadLog(0)
    for place, turn in enumerate(log):
        if desk.version == MAX_EDITS or turn_error(desk.league, turn) is not None:
            raise BadLog(place)
        a, b = turn
        desk.turn(a, b)
    return desk
