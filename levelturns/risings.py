"""Whole rows of rises: how many there are, and which one has which number."""

from levelturns.basics import is_integer
from levelturns.errors import Unfit
from levelturns.leagues import wins
from levelturns.turns import done, open_rises, turn_error, turn_kind


def row_count(league):
    """Return how many whole rows of rises league has."""
    return _rows_of(league, {})


def next_counts(league):
    """Return each turn that is a rise in league, with how many whole rows of rises begin with it."""
    return tuple(_rows_by_turn(league, {}))


def row_at(league, number):
    """Return the whole row of rises with this number; raise Unfit() if there is none."""
    known = {}
    if not is_integer(number) or not 0 <= number < _rows_of(league, known):
        raise Unfit()
    present, left, row = league, number, ()
    while open_rises(present):
        turn, left = _turn_with(_rows_by_turn(present, known), left)
        present, row = done(present, turn), row + (turn,)
    return row


def _turn_with(rows, number):
    """Return the turn with which the row of this number begins, and its number among those that do."""
    left = number
    for turn, many in rows:
        if left < many:
            break
        left -= many
    return turn, left


def row_number(league, value):
    """Return the number of value; raise Unfit() if it is no whole row of rises of league."""
    if not isinstance(value, tuple):
        raise Unfit()
    present, number, known = league, 0, {}
    for turn in value:
        if not _is_rise(present, turn):
            raise Unfit()
        number += sum([many for other, many in _rows_by_turn(present, known) if other < turn])
        present = done(present, turn)
    if open_rises(present):
        raise Unfit()
    return number


def _is_rise(league, value):
    return turn_error(league, value) is None and turn_kind(league, value[0], value[1]) == "rise"


def _rows_of(league, known):
    return count_rows(tuple(sorted(wins(league))), known)


def _rows_by_turn(league, known):
    return [(turn, _rows_of(done(league, turn), known)) for turn in open_rises(league)]


def count_rows(counts, known):
    """Return how many whole rows of rises a league has whose wins, put in ascending order, are counts.

    known, a dict that is empty at first, keeps what was counted from one call to the next.
    """
    if counts not in known:
        rows = [ways * count_rows(behind, known) for ways, behind in partings(counts)]
        # Where no two are level there is the empty row alone.
        known[counts] = sum(rows) if rows else 1
    return known[counts]


def partings(counts):
    """Return, for each number of wins that several sides have, a pair (ways, behind); ascending numbers.

    ways is how many pairs of such level sides there are, behind the wins, ascending, once one of them has risen.
    """
    found = []
    for level in sorted(set(counts)):
        many = counts.count(level)
        if many > 1:
            others = [count for count in counts if count != level]
            behind = sorted(others + [level] * (many - 2) + [level - 1, level + 1])
            found.append((many * (many - 1) // 2, tuple(behind)))
    return found
