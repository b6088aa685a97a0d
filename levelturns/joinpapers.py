"""Join papers, which show that two leagues are joined, or that they are not."""

from levelturns.basics import is_integer
from levelturns.errors import Refused, TooMany
from levelturns.nearest import differing
from levelturns.rings import ring_count
from levelturns.signs import joined, way
from levelturns.turns import led


def paper(one, other):
    """Return a join paper of one and other."""
    if joined(one, other):
        return ("way", way(one, other))
    return ("apart", *_differences(one, other))


def paper_error(one, other, value):
    """Return None if value is a join paper of one and other, else "form", "way" or "apart"."""
    sort = _sort_of(value)
    if sort == "way":
        return None if _leads(one, other, value[1]) else "way"
    if sort == "apart":
        return None if _parts(one, other, value[1:]) else "apart"
    return "form"


def _sort_of(value):
    """Return "way" or "apart", whichever sort of paper value has the form of; None if of neither."""
    if not isinstance(value, tuple):
        return None
    if len(value) == 2 and value[0] == "way":
        return "way"
    if len(value) == 4 and value[0] == "apart":
        return "apart"
    return None


def _leads(one, other, value):
    """Return whether value is a tuple of turns by which one is led to other."""
    if not isinstance(value, tuple):
        return False
    try:
        return led(one, value) == other
    except (Refused, TooMany):
        return False


def _parts(one, other, numbers):
    """Return whether numbers are those that tell one and other apart, together odd."""
    # Python takes True for 1, so equal is not enough.
    if not all([is_integer(number) for number in numbers]):
        return False
    return numbers == _differences(one, other) and sum(numbers) % 2 == 1


def _differences(one, other):
    """Return how many matches differ, how many rings one has, and how many other has."""
    return (len(differing(one, other)), ring_count(one), ring_count(other))
