"""Books as texts, and back."""

from levelturns.books import book_error
from levelturns.errors import BadLine, BadText
from levelturns.leaguetexts import league_text, letters_of, read_league, sides_of


def book_text(book):
    """Return the text of book."""
    leagues, orders, asks = book
    lines = [("league", name, league_text(league)) for name, league in leagues]
    lines += [("order", name, letters_of(order)) for name, order in orders]
    lines += [("ask", *question) for question in asks]
    return "\n".join([" ".join(line) for line in lines])


def read_book(value):
    """Return the book that value tells; raise BadLine with the place of the first line that cannot stand there."""
    if not isinstance(value, str):
        raise BadLine(-1)
    book = ((), (), ())
    lines = value.split("\n") if value else []
    for place, line in enumerate(lines):
        book = _with_line(book, line)
        # A book up to here has no error but by this line.
        if book_error(book) is not None:
            raise BadLine(place)
    return book


def _with_line(book, line):
    """Return book with what line tells behind all else of its sort, right or wrong; None if line is of no sort."""
    leagues, orders, asks = book
    word, _, told = line.partition(" ")
    name, _, text = told.partition(" ")
    if word == "league":
        return ((*leagues, (name, _league_in(text))), orders, asks)
    if word == "order":
        return (leagues, (*orders, (name, sides_of(text))), asks)
    if word == "ask":
        return (leagues, orders, (*asks, tuple(told.split(" "))))
    return None


def _league_in(text):
    """Return the league of which text is the text; None, which is no league, if there is none."""
    try:
        return read_league(text)
    except BadText:
        return None
