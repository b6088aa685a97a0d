"""Sides that keep their matches, and rows behind which one side stands ahead of another one."""

from levelturns.errors import Unfit
from levelturns.leagues import beat
from levelturns.turns import done, open_rises


def covers(league, a, b):
    """Return whether a beat b, and everybody whom b beat."""
    return all([beat(league, a, side) for side in (b, *league[b])])


def kept_row(league, side):
    """Return a whole row of rises none of whose turns is a match of side."""
    present, row = league, ()
    while open_rises(present):
        # As long as two sides are level there are two level ones without side.
        turn = [turn for turn in open_rises(present) if side not in turn][0]
        present, row = done(present, turn), row + (turn,)
    return row


def ahead_row(league, a, b):
    """Return a whole row of rises behind which a stands ahead of b; raise Unfit() if b covers a."""
    if covers(league, b, a):
        raise Unfit()
    return kept_row(league, _to_keep(league, a, b))


def _to_keep(league, a, b):
    """Return a side that puts a ahead of b if its matches are kept; b does not cover a."""
    if beat(league, a, b):
        return a
    # Somebody whom b did not beat: they stay behind a, and ahead of b.
    return [side for side in league[a] if beat(league, side, b)][0]
