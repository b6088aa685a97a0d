"""Ways of few turns from one league to another one."""

from levelturns.basics import matches
from levelturns.bestrows import a_turn_longer, empty_row_at
from levelturns.bounds import MAX_NEAR, MAX_OPEN
from levelturns.errors import TooMany, Unfit
from levelturns.leagues import beat
from levelturns.signs import joined
from levelturns.turns import open_turns


def differing(one, other):
    """Return the matches that another side won in other than in one, ascending."""
    return tuple([(a, b) for a, b in matches(len(one)) if beat(one, a, b) != beat(other, a, b)])


def direct_way(one, other):
    """Return the least way that turns each match that differs just once, and no other one; None if there is none."""
    many = len(differing(one, other))
    if many > MAX_OPEN:
        raise TooMany(MAX_OPEN)

    def turns_towards(league):
        wanted = differing(league, other)
        return [turn for turn in open_turns(league) if turn in wanted]

    best = empty_row_at(one)
    for _ in range(many):
        best = a_turn_longer(best, turns_towards, {})
    return best[other][1] if other in best else None


def distance(one, other):
    """Return how many turns the shortest ways from one to other have."""
    return len(nearest_way(one, other))


def nearest_way(one, other):
    """Return a shortest way from one to other; raise Unfit() if there is no way."""
    if len(one) > MAX_NEAR:
        raise TooMany(MAX_NEAR)
    if not joined(one, other):
        raise Unfit()
    best = empty_row_at(one)
    while other not in best:
        best = a_turn_longer(best, open_turns, {})
    return best[other][1]
