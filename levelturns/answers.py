"""Answers to the questions of a book, in words and letters."""

from levelturns.errors import LevelError
from levelturns.leagues import wins
from levelturns.leaguetexts import letters_of
from levelturns.lows import low_row
from levelturns.nearest import differing, distance
from levelturns.reached import ends, row_to, sure
from levelturns.rings import ring_count
from levelturns.risings import row_count
from levelturns.signs import joined, sign
from levelturns.turns import open_turns


def answered(book):
    """Return the answers to all questions of book, in order."""
    leagues, orders, asks = book
    thing_of = dict([*leagues, *orders])
    return tuple([_answer(ask[0], [thing_of[name] for name in ask[1:]]) for ask in asks])


def _answer(word, things):
    try:
        return told(word, things)
    except LevelError as error:
        return "error " + type(error).__name__


def told(word, things):
    """Return what the question with this word tells of the leagues, or the league and the order, that it names."""
    tell = TELLERS[word]
    return tell(*things)


def _told_wins(league):
    return " ".join([str(many) for many in wins(league)])


def _told_rings(league):
    return str(ring_count(league))


def _told_sign(league):
    return str(sign(league))


def _told_rows(league):
    return str(row_count(league))


def _told_ends(league):
    return _listed(ends(league))


def _told_sure(league):
    return _listed(sure(league))


def _told_low(league):
    return _listed(low_row(league))


def _told_open(league):
    return _listed(open_turns(league))


def _told_joined(one, other):
    return "yes" if joined(one, other) else "no"


def _told_far(one, other):
    return str(distance(one, other))


def _told_differ(one, other):
    return str(len(differing(one, other)))


def _told_row(league, order):
    return _listed(row_to(league, order))


def _listed(rows):
    """Return the letters of each of some rows of sides, "none" if there are no rows."""
    return " ".join([letters_of(row) for row in rows]) if rows else "none"


TELLERS = {
    "wins": _told_wins,
    "rings": _told_rings,
    "sign": _told_sign,
    "rows": _told_rows,
    "ends": _told_ends,
    "sure": _told_sure,
    "low": _told_low,
    "open": _told_open,
    "joined": _told_joined,
    "far": _told_far,
    "differ": _told_differ,
    "row": _told_row,
}
