"""Tables of wins: which ones there are, and what holds of all leagues that have them."""

from itertools import combinations

from levelturns.basics import is_integer
from levelturns.bounds import MAX_SIDES
from levelturns.errors import Unfit
from levelturns.kept import kept_row
from levelturns.risings import count_rows, partings
from levelturns.turns import led


def table_error(value):
    """Return None if value is a table, else the first thing that is wrong with it."""
    if not isinstance(value, tuple) or not 1 <= len(value) <= MAX_SIDES:
        return "form"
    n = len(value)
    for place, item in enumerate(value):
        if not is_integer(item) or not 0 <= item < n:
            return ("item", place)
    for k in range(1, n + 1):
        if sum(sorted(value)[:k]) < _pairs_of(k):
            return ("least", k)
    return "sum" if sum(value) > _pairs_of(n) else None


def _pairs_of(many):
    """Return how many pairs there are of so many things."""
    return many * (many - 1) // 2


def league_with(table):
    """Return a league whose wins are table."""
    n, left = len(table), list(table)
    beaten = [[] for _ in table]
    for side in range(n):
        # Whoever has the fewest wins to come loses to side, the others beat it: so a table is left of these.
        others = sorted(range(side + 1, n), key=lambda other: left[other])
        many = left[side]
        beaten[side].extend(others[:many])
        for other in others[many:]:
            beaten[other].append(side)
            left[other] -= 1
    return tuple([tuple(sorted(row)) for row in beaten])


def count_with(table):
    """Return how many leagues have these wins."""
    return _leagues_with(tuple(sorted(table)), {})


def _leagues_with(counts, known):
    """Return how many leagues have these wins, ascending ones; known keeps what was counted."""
    if not counts:
        return 1
    if counts not in known:
        known[counts] = sum([_leagues_with(rest, known) for rest in _rests(counts[1:], counts[0])])
    return known[counts]


def _rests(counts, many):
    """Return, for each choice of so many sides with these wins, all but the chosen with a win fewer; ascending.

    A first side beat those that are chosen: so that is what all have without it. None has fewer than no wins.
    """
    found = []
    for chosen in combinations(range(len(counts)), many):
        rest = [count if at in chosen else count - 1 for at, count in enumerate(counts)]
        if -1 not in rest:
            found.append(tuple(sorted(rest)))
    return found


def all_tables(n):
    """Return all tables of n whose items never fall, ascending."""
    rows = [()]
    for _ in range(n):
        rows = [(*row, item) for row in rows for item in range(max(row, default=0), n)]
    return tuple([row for row in rows if table_error(row) is None])


def table_rings(table):
    """Return how many rings each league with these wins has."""
    n = len(table)
    return n * (n - 1) * (n - 2) // 6 - sum([_pairs_of(many) for many in table])


def table_rows(table):
    """Return how many whole rows of rises each league with these wins has."""
    return count_rows(tuple(sorted(table)), {})


def rises_of(table):
    """Return all tables, each in ascending order, that come of table by one rise, ascending."""
    return tuple(sorted([behind for _, behind in partings(table)]))


def most_rings(n):
    """Return the greatest number of rings that a league of n sides has."""
    return (n * n * n - n) // 24 if n % 2 == 1 else (n * n * n - 4 * n) // 24


def with_rings(n, number):
    """Return a league of n sides that has just number rings; raise Unfit() if there is none."""
    most = most_rings(n)
    if not is_integer(number) or not 0 <= number <= most:
        raise Unfit()
    # Wins within one of one another make the most rings; each rise makes them one fewer.
    even = league_with(tuple([(n - 1 + side % 2) // 2 for side in range(n)]))
    return led(even, kept_row(even, 0)[:most - number])
