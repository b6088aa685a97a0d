"""Leagues: who beat whom, and leagues that come of others."""

from levelturns.basics import is_side, matches, winner_first
from levelturns.bounds import MAX_SIDES


def league_error(value):
    """Return None if value is a league, else the first thing that is wrong with it."""
    if not isinstance(value, tuple) or not 1 <= len(value) <= MAX_SIDES:
        return "form"
    n = len(value)
    for a, row in enumerate(value):
        if not _is_row(row, a, n):
            return ("side", a)
    for a, b in matches(n):
        if (b in value[a]) == (a in value[b]):
            return ("match", a, b)
    return None


def _is_row(value, a, n):
    """Return whether value is an ascending tuple of sides of n other than a."""
    if not isinstance(value, tuple):
        return False
    # Only sides may be compared: other values have no order.
    if not all([is_side(b, n) and b != a for b in value]):
        return False
    return all([value[at - 1] < value[at] for at in range(1, len(value))])


def beat(league, a, b):
    """Return whether a beat b."""
    return b in league[a]


def wins(league):
    """Return how many sides each side beat, in order."""
    return tuple([len(row) for row in league])


def turned(league, a, b):
    """Return the league in which the other one of a and b won their match."""
    winner, loser = winner_first(league, a, b)
    rows = list(league)
    rows[winner] = tuple([side for side in league[winner] if side != loser])
    rows[loser] = tuple(sorted([*league[loser], winner]))
    return tuple(rows)


def renamed(league, order):
    """Return the league in which i beat j exactly if order[i] beat order[j] in league."""
    return tuple([tuple(sorted([order.index(side) for side in league[old]])) for old in order])


def contrary(league):
    """Return the league in which all matches are turned."""
    sides = range(len(league))
    return tuple([tuple([b for b in sides if a in league[b]]) for a in sides])
