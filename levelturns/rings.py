"""Rings: three sides of which each beat the next one, round by round."""

from levelturns.basics import lead


def rings(league):
    """Return all rings of league, ascending, each from its least side on."""
    return tuple([(a, b, c) for a in range(len(league)) for b, c in _steps_round(league, a) if a < b and a < c])


def _steps_round(league, side):
    """Return the pairs (b, c) such that side beat b, b beat c, and c beat side; ascending."""
    return [(b, c) for b in league[side] for c in league[b] if side in league[c]]


def ring_count(league):
    """Return how many rings league has."""
    return len(rings(league))


def rings_with(league, side):
    """Return how many rings of league have side."""
    return len(_steps_round(league, side))


def ring_change(league, a, b):
    """Return how many rings more there are when the match of a and b is turned."""
    # The winner, with w wins, gives up w - 1 pairs of sides that it beat both; the other one, with v, gains v.
    return lead(league, a, b) - 1
