"""Halves: leagues of which some matches are told, and others are still open."""

from levelturns.basics import is_integer, is_pair_of_sides, match_of, matches
from levelturns.bounds import MAX_OPEN, MAX_SIDES
from levelturns.errors import TooMany
from levelturns.leagues import beat, league_error, turned
from levelturns.rings import ring_count
from levelturns.signs import sign


def half_error(value):
    """Return None if value is a half, else the first thing that is wrong with it."""
    if not isinstance(value, tuple) or len(value) != 2 or not isinstance(value[1], tuple):
        return "form"
    n, won = value
    if not is_integer(n) or not 1 <= n <= MAX_SIDES:
        return "sides"
    for place, item in enumerate(won):
        if not is_pair_of_sides(item, n) or not _comes_behind(item, won[:place]):
            return ("match", place)
    return None


def _comes_behind(pair, ahead):
    """Return whether pair may stand behind the pairs ahead: it is greater, and none of them is of its match."""
    a, b = pair
    return not ahead or (ahead[-1] < pair and (b, a) not in ahead)


def opens(half):
    """Return all open matches of half, ascending."""
    n, won = half
    return tuple([(a, b) for a, b in matches(n) if (a, b) not in won and (b, a) not in won])


def filled(half, winners):
    """Return the league that goes with half in which these, in order, won the open matches."""
    n, won = half
    beaten = [[] for _ in range(n)]
    for a, b in won:
        beaten[a].append(b)
    for (a, b), winner in zip(opens(half), winners):
        beaten[winner].append(b if winner == a else a)
    return tuple([tuple(sorted(row)) for row in beaten])


def most_ringed(half):
    """Return a league that goes with half and has the most rings of all such."""
    league = filled(half, tuple([a for a, _ in opens(half)]))
    row = _uneven_row(half, league)
    # A league without such a row has the most rings; turning one makes them more.
    while row is not None:
        for a, b in zip(row, row[1:]):
            league = turned(league, a, b)
        row = _uneven_row(half, league)
    return league


def most_error(half, value):
    """Return None if value goes with half and has the most rings of all such, else what is wrong with it."""
    n, won = half
    if league_error(value) is not None or len(value) != n:
        return "form"
    for a, b in won:
        if not beat(value, a, b):
            return ("match", a, b)
    row = _uneven_row(half, value)
    return None if row is None else ("more", row[0], row[-1])


def _uneven_row(half, league):
    """Return the sides of a row of open matches, each won by the side ahead, to one with at least two wins fewer.

    The first and the last one are the least pair of sides between which there is such a row; None if there is none.
    """
    free = opens(half)
    for a in range(len(league)):
        rows = _rows_from(league, free, a)
        for b in sorted(rows):
            if len(league[a]) - len(league[b]) >= 2:
                return rows[b]
    return None


def _rows_from(league, free, side):
    """Return, for each side to which free matches lead from side, each won by the side ahead, the sides on one row."""
    rows, left = {side: (side,)}, [side]
    while left:
        a = left.pop()
        for b in league[a]:
            if b not in rows and match_of(a, b) in free:
                rows[b] = (*rows[a], b)
                left.append(b)
    return rows


def ring_range(half):
    """Return the least and the greatest number of rings of all leagues that go with half."""
    counts = [ring_count(league) for league in _all_filled(half)]
    return (min(counts), max(counts))


def half_signs(half):
    """Return the signs of all leagues that go with half, ascending."""
    return tuple(sorted(set([sign(league) for league in _all_filled(half)])))


def _all_filled(half):
    """Return all leagues that go with half; raise TooMany(MAX_OPEN) if too many matches are open."""
    free = opens(half)
    if len(free) > MAX_OPEN:
        raise TooMany(MAX_OPEN)
    rows = [()]
    for match in free:
        rows = [(*row, side) for row in rows for side in match]
    return [filled(half, winners) for winners in rows]
