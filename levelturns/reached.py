"""Rankings that whole rows of rises reach: which ones, by what rows, and at what price."""

from levelturns.basics import matches
from levelturns.bestrows import a_turn_longer, empty_row_at
from levelturns.bounds import MAX_REACHED
from levelturns.errors import TooMany, Unfit
from levelturns.rankings import order_of
from levelturns.rings import ring_count
from levelturns.turns import open_rises


def ends(league):
    """Return all orders that whole rows of rises reach, ascending."""
    return tuple(sorted(_best_rows(league, ())))


def row_to(league, order):
    """Return the least whole row of rises that reaches order; raise Unfit() if none does."""
    best = _best_rows(league, ())
    if order not in best:
        raise Unfit()
    return best[order][1]


def sure(league):
    """Return the pairs (a, b) such that a stands ahead of b behind all whole rows of rises, ascending."""
    orders = ends(league)
    sides = range(len(league))
    return tuple([(a, b) for a in sides for b in sides if all([_is_ahead(order, a, b) for order in orders])])


def _is_ahead(order, a, b):
    return order.index(a) < order.index(b)


def cheapest(league, prices):
    """Return the least price of all whole rows of rises, and the least row that has it."""
    return min(_best_rows(league, prices).values())


def _best_rows(league, prices):
    """Return, for each order that is reached, the least price and the least whole row that has it.

    prices are those of the matches, in order; matches without one cost nothing.
    """
    if len(league) > MAX_REACHED:
        raise TooMany(MAX_REACHED)
    price_of = dict(zip(matches(len(league)), prices))
    best = empty_row_at(league)
    # All whole rows have as many turns as there are rings.
    for _ in range(ring_count(league)):
        best = a_turn_longer(best, open_rises, price_of)
    return {order_of(reached): told for reached, told in best.items()}
