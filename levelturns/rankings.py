"""Orders of sides, and the leagues that are their rankings."""

from levelturns.basics import is_side
from levelturns.leagues import wins


def order_error(n, value):
    """Return None if value is an order of n, else the first thing that is wrong with it."""
    if not isinstance(value, tuple) or len(value) != n:
        return "form"
    for place, side in enumerate(value):
        if not is_side(side, n):
            return ("side", place)
    for place, side in enumerate(value):
        if side in value[:place]:
            return ("twice", place)
    return None


def ranking(order):
    """Return the league in which each side beat all that stand behind it in order."""
    sides = range(len(order))
    return tuple([tuple(sorted(order[order.index(side) + 1:])) for side in sides])


def order_of(league):
    """Return the order of which league is the ranking, None if there is none."""
    n, counts = len(league), wins(league)
    # Where no two sides are level the wins are 0 to n - 1, and only rankings have these.
    if sorted(counts) != list(range(n)):
        return None
    return tuple([counts.index(many) for many in reversed(range(n))])
