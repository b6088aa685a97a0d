"""Low leagues, in which no fall can be done, and the rows of falls that lead to them."""

from levelturns.turns import done, open_falls


def is_low(league):
    """Return whether no fall can be done in league."""
    return not open_falls(league)


def low_row(league):
    """Return the whole row of falls of league in which each time the least open fall is done."""
    present, row = league, ()
    # Each fall makes the rings one more, so there is an end.
    while not is_low(present):
        turn = open_falls(present)[0]
        present, row = done(present, turn), row + (turn,)
    return row
