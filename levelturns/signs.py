"""Signs of leagues and of orders, and ways that lead from one league to another one."""

from levelturns.basics import match_of, matches
from levelturns.errors import Unfit
from levelturns.kept import kept_row
from levelturns.rankings import order_of
from levelturns.rings import ring_count
from levelturns.turns import led


def sign(league):
    """Return the sign of league, 0 or 1."""
    won_by_greater = [(a, b) for b, row in enumerate(league) for a in row if a < b]
    return (len(won_by_greater) + ring_count(league)) % 2


def order_sign(order):
    """Return the sign of order, 0 or 1."""
    turned_about = [(a, b) for a, b in matches(len(order)) if order.index(a) > order.index(b)]
    return len(turned_about) % 2


def joined(one, other):
    """Return whether some row of turns leads from one to other."""
    return sign(one) == sign(other)


def way(one, other):
    """Return turns by which one is led to other; raise Unfit() if they are not joined."""
    if not joined(one, other):
        raise Unfit()
    # Whole rows of rises, whichever ones. Each turn takes itself back, so one goes down from its end, too.
    up, down = kept_row(one, 0), kept_row(other, 0)
    return up + _rounds(order_of(led(one, up)), order_of(led(other, down))) + down[::-1]


def _rounds(order, goal):
    """Return turns that lead from the ranking of order to that of goal, an order of the same sign."""
    present, turns = list(order), []
    # The last two stand right by themselves, as the sign stays.
    for place in range(len(goal) - 2):
        at = present.index(goal[place])
        while at > place:
            # A fall of the outer two of three in a row makes a ring; a rise parts it where the
            # wanted one, which comes to stand first, met the one ahead of it.
            first = max(at - 2, place)
            turns.append(match_of(present[first], present[first + 2]))
            turns.append(match_of(present[at - 1], present[at]))
            present[first:first + 3] = present[at:first + 3] + present[first:at]
            at = first
    return tuple(turns)
