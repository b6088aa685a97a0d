"""Turns: rises and falls, what can be done, and what comes of it."""

from levelturns.basics import is_pair_of_sides, lead, matches
from levelturns.bounds import MAX_WAY
from levelturns.errors import Refused, TooMany
from levelturns.leagues import turned


def turn_kind(league, a, b):
    """Return "rise", "fall" or "none", as the match of a and b is one of these."""
    ahead = lead(league, a, b)
    if ahead == 0:
        return "rise"
    if ahead == 2:
        return "fall"
    return "none"


def turn_error(league, value):
    """Return None if value is a turn that can be done in league, else "form" or "bar"."""
    if not is_pair_of_sides(value, len(league)) or value[0] > value[1]:
        return "form"
    a, b = value
    return "bar" if turn_kind(league, a, b) == "none" else None


def done(league, turn):
    """Return the league behind turn; raise Refused(turn) if it can't be done."""
    if turn_error(league, turn) is not None:
        raise Refused(turn)
    a, b = turn
    return turned(league, a, b)


def led(league, some):
    """Return the league behind all turns of some, done one behind another."""
    if len(some) > MAX_WAY:
        raise TooMany(MAX_WAY)
    present = league
    for turn in some:
        present = done(present, turn)
    return present


def open_turns(league):
    """Return all turns that can be done in league, ascending."""
    return tuple([(a, b) for a, b in matches(len(league)) if turn_kind(league, a, b) != "none"])


def open_rises(league):
    """Return all turns that are rises in league, ascending."""
    return _turns_of_kind(league, "rise")


def open_falls(league):
    """Return all turns that are falls in league, ascending."""
    return _turns_of_kind(league, "fall")


def _turns_of_kind(league, kind):
    return tuple([(a, b) for a, b in matches(len(league)) if turn_kind(league, a, b) == kind])
