"""Rows of turns by the leagues to which they lead: a search a turn at a time."""

from levelturns.turns import done


def empty_row_at(league):
    """Return the best rows of no turns: one alone, which leads to league itself."""
    return {league: (0, ())}


def a_turn_longer(best, turns_from, prices):
    """Return the best rows that are by one turn longer than those of best.

    best tells of each league to which rows lead the price of the cheapest, and the least row that has it.
    turns_from tells what turns may be done in a league; prices has those turns that cost anything.
    """
    found = {}
    for league, (price, row) in best.items():
        for turn in turns_from(league):
            behind, told = done(league, turn), (price + prices.get(turn, 0), row + (turn,))
            found[behind] = min(found.get(behind, told), told)
    return found
