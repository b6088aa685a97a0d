"""What turns do, and which rows of them are whole, told by plain means of the tests' own."""

import time
from itertools import combinations

from tests.samples import pairs, ranked


def kind_of(league, a, b):
    """Return what the match of a and b is, as the document tells it."""
    winner, loser = (a, b) if b in league[a] else (b, a)
    ahead = len(league[winner]) - len(league[loser])
    return {0: "rise", 2: "fall"}.get(ahead, "none")


def rises_in(league):
    return [turn for turn in pairs(len(league)) if kind_of(league, *turn) == "rise"]


def falls_in(league):
    return [turn for turn in pairs(len(league)) if kind_of(league, *turn) == "fall"]


def open_in(league):
    return [turn for turn in pairs(len(league)) if kind_of(league, *turn) != "none"]


def turned_over(league, turn):
    """Return the league in which this match went the other way."""
    a, b = turn
    beaten = [set(row) for row in league]
    beaten[a] ^= {b}
    beaten[b] ^= {a}
    return tuple(tuple(sorted(row)) for row in beaten)


def is_turn(value, n):
    """Return whether value is a turn of n sides: a tuple of two integers, the lesser one first."""
    return type(value) is tuple and [type(side) for side in value] == [int, int] and value in pairs(n)


def behind(league, turns):
    """Return the league behind turns; None if turns is no tuple of turns each of which can be done."""
    if type(turns) is not tuple:
        return None
    for turn in turns:
        if not is_turn(turn, len(league)) or kind_of(league, *turn) == "none":
            return None
        league = turned_over(league, turn)
    return league


def is_way(one, other, turns):
    return behind(one, turns) == other and len(turns) <= 100


def is_whole_row(league, row):
    """Return whether row is a tuple of rises, each one when its turn comes, behind which none can be done."""
    if type(row) is not tuple:
        return False
    for turn in row:
        if not is_turn(turn, len(league)) or kind_of(league, *turn) != "rise":
            return False
        league = turned_over(league, turn)
    return not rises_in(league)


def whole_rows(league):
    """Return all whole rows of rises of league, ascending, by a plain search."""
    found = []
    for turn in rises_in(league):
        found += [(turn, *row) for row in whole_rows(turned_over(league, turn))]
    return found or [()]


def differing_in(one, other):
    """Return the matches that another side won in other than in one, ascending."""
    return [(a, b) for a, b in pairs(len(one)) if (b in one[a]) != (b in other[a])]


def ring_number(league):
    """Return how many threes there are of which none beat both others."""
    return sum(
        1 for three in combinations(range(len(league)), 3)
        if all(len(set(league[side]) & set(three)) == 1 for side in three)
    )


def sign_of(league):
    greater = sum(1 for a, b in pairs(len(league)) if a in league[b])
    return (greater + ring_number(league)) % 2


def order_reached(league):
    """Return the order of the ranking that league is."""
    order = tuple(sorted(range(len(league)), key=lambda side: -len(league[side])))
    assert ranked(order) == league
    return order


def steps_from(league):
    """Return how few turns lead from league to each league that is joined to it, by a plain search."""
    found, last = {league: 0}, [league]
    while last:
        following = []
        for present in last:
            for turn in open_in(present):
                behind_it = turned_over(present, turn)
                if behind_it not in found:
                    found[behind_it] = found[present] + 1
                    following.append(behind_it)
        last = following
    return found


def seconds(act, *given):
    """Return how many seconds act takes for what it is given."""
    begun = time.process_time()
    act(*given)
    return time.process_time() - begun
