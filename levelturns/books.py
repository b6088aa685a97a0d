"""Books: leagues and orders with names, and questions that are asked of them."""

from levelturns.bounds import MAX_ASKS, MAX_NAMES, MAX_SIDES
from levelturns.leagues import league_error
from levelturns.rankings import order_error

KEYWORDS = (
    "ask", "differ", "ends", "far", "joined", "league", "low", "open", "order", "rings", "row", "rows", "sign", "sure",
    "wins",
)
LONGEST_NAME = 8

# What a question names, behind its word.
QUESTIONS = {
    "wins": ("league",),
    "rings": ("league",),
    "sign": ("league",),
    "rows": ("league",),
    "ends": ("league",),
    "sure": ("league",),
    "low": ("league",),
    "open": ("league",),
    "joined": ("league", "league"),
    "far": ("league", "league"),
    "differ": ("league", "league"),
    "row": ("league", "order"),
}


def is_name(value):
    """Return whether value is a name."""
    if not isinstance(value, str) or not 1 <= len(value) <= LONGEST_NAME:
        return False
    return value not in KEYWORDS and all(["a" <= letter <= "z" for letter in value])


def book_error(value):
    """Return None if value is a book, else the first thing that is wrong with it."""
    if not isinstance(value, tuple) or [isinstance(part, tuple) for part in value] != [True, True, True]:
        return "form"
    leagues, orders, asks = value
    place = _first_bad_entry(leagues, _is_league, ())
    if place is not None:
        return ("league", place)
    place = _first_bad_entry(orders, _is_order, [name for name, _ in leagues])
    if place is not None:
        return ("order", place)
    sides_of = {"league": _sides_by_name(leagues), "order": _sides_by_name(orders)}
    for place, ask in enumerate(asks):
        if not _is_question(ask, sides_of):
            return ("ask", place)
    return "many" if len(leagues) + len(orders) > MAX_NAMES or len(asks) > MAX_ASKS else None


def _is_league(value):
    return league_error(value) is None


def _is_order(value):
    return isinstance(value, tuple) and 1 <= len(value) <= MAX_SIDES and order_error(len(value), value) is None


def _first_bad_entry(entries, fits, taken):
    """Return the place of the first entry that is no pair of a name and what fits, or whose name is taken by then.

    None if there is no such entry; taken are the names that stand ahead of all entries.
    """
    names = set(taken)
    for place, entry in enumerate(entries):
        if not _is_entry(entry, fits) or entry[0] in names:
            return place
        names.add(entry[0])
    return None


def _is_entry(value, fits):
    return isinstance(value, tuple) and len(value) == 2 and is_name(value[0]) and fits(value[1])


def _sides_by_name(entries):
    return {name: len(thing) for name, thing in entries}


def _is_question(value, sides_of):
    """Return whether value is a question; sides_of tells, by sort and name, the sides of what may be named."""
    if not isinstance(value, tuple) or not value or not all([isinstance(part, str) for part in value]):
        return False
    word, names = value[0], value[1:]
    if word not in QUESTIONS or len(names) != len(QUESTIONS[word]):
        return False
    sides = [sides_of[sort].get(name) for sort, name in zip(QUESTIONS[word], names)]
    return None not in sides and len(set(sides)) == 1
