"""Leagues as texts, and back."""

from levelturns.errors import BadText
from levelturns.leagues import league_error

LETTERS = "abcdefgh"


def letters_of(sides):
    """Return the letters of sides, in their order, in one row."""
    return "".join([LETTERS[side] for side in sides])


def sides_of(letters):
    """Return the sides that these letters stand for, in their order."""
    # A sign that is no letter of a side gives -1, which is no side.
    return tuple([LETTERS.find(sign) for sign in letters])


def league_text(league):
    """Return the text of league."""
    return " ".join([_row_text(side, row) for side, row in enumerate(league)])


def _row_text(side, row):
    return LETTERS[side] + ":" + letters_of(row)


def read_league(value):
    """Return the league of which value is the text; raise BadText(value) if there is none."""
    if not isinstance(value, str):
        raise BadText(value)
    league = tuple([sides_of(part[2:]) for part in value.split(" ")])
    # Writing it anew finds all faults that are not in the rows: wrong letters ahead, no colon.
    if league_error(league) is not None or league_text(league) != value:
        raise BadText(value)
    return league

