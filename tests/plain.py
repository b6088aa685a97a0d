"""Texts, answers, desks and shells by plain means of the tests' own."""

import re

from levelturns.errors import (
    BadText, LevelError, NothingToRedo, NothingToUndo, Refused, TooMany, TooManyEdits, Unfit,
)
from tests.judges import (
    behind, differing_in, falls_in, kind_of, open_in, order_reached, ring_number, rises_in, sign_of, steps_from,
    turned_over, whole_rows,
)
from tests.samples import pairs, ranked

LETTERS = "abcdefgh"


def letters(row):
    return "".join(LETTERS[side] for side in row)


def listed(rows):
    return " ".join(letters(row) for row in rows) or "none"


def rows_told(league, known):
    """Return how many whole rows of rises there are, counted by the wins ahead and behind."""
    key = tuple(sorted(len(row) for row in league))
    if key not in known:
        known[key] = sum(rows_told(turned_over(league, turn), known) for turn in rises_in(league)) or 1
    return known[key]


def low_told(league):
    row = []
    while falls_in(league):
        row.append(falls_in(league)[0])
        league = turned_over(league, row[-1])
    return listed(row)


def reached_told(word, league):
    if len(league) > 5:
        return "error TooMany"
    orders = sorted({order_reached(behind(league, row)) for row in whole_rows(league)})
    if word == "ends":
        return listed(orders)
    sides = range(len(league))
    return listed((a, b) for a in sides for b in sides if a != b and all(o.index(a) < o.index(b) for o in orders))


def row_told(league, order):
    if len(league) > 5:
        return "error TooMany"
    rows = [row for row in whole_rows(league) if order_reached(behind(league, row)) == order]
    return listed(min(rows)) if rows else "error Unfit"


def far_told(one, other):
    if len(one) > 4:
        return "error TooMany"
    return str(steps_from(one).get(other, "error Unfit"))


def answer_told(word, things):
    """Return the answer to the question of this word on these things, by plain means."""
    league = things[0]
    if word in ("ends", "sure"):
        return reached_told(word, league)
    if word == "far":
        return far_told(*things)
    if word == "row":
        return row_told(*things)
    return {
        "wins": lambda: " ".join(str(len(row)) for row in league),
        "rings": lambda: str(ring_number(league)),
        "sign": lambda: str(sign_of(league)),
        "rows": lambda: str(rows_told(league, {})),
        "low": lambda: low_told(league),
        "open": lambda: listed(open_in(league)),
        "joined": lambda: "yes" if sign_of(things[0]) == sign_of(things[1]) else "no",
        "differ": lambda: str(len(differing_in(*things))),
    }[word]()


def league_letters(league):
    """Return the text of league."""
    return " ".join(LETTERS[a] + ":" + letters(row) for a, row in enumerate(league))


def league_read(text):
    """Return the league of which text is the text, None if there is none."""
    parts = [re.fullmatch("([a-h]):([a-h]*)", part) for part in text.split(" ")]
    if None in parts or "".join(part[1] for part in parts) != LETTERS[:len(parts)]:
        return None
    league = tuple(tuple(LETTERS.index(letter) for letter in part[2]) for part in parts)
    won = [(a, b) for a, row in enumerate(league) for b in row]
    if sorted(won) != won or sorted((min(pair), max(pair)) for pair in won) != pairs(len(league)):
        return None
    return league


class PlainDesk:
    """A desk by plain means: its leagues and turns one behind another, also those that were taken back."""

    def __init__(self, league):
        self.leagues, self.turns, self.many = [league], [], 0

    def state(self):
        league = self.leagues[self.many]
        return (league, tuple(len(row) for row in league), ring_number(league), sign_of(league), self.many,
                tuple(self.turns[:self.many]))

    def call(self, name, *given):
        """Return what the call returns, or the error that it raises."""
        league = self.leagues[self.many]
        if name == "undo":
            return self.step(-1) if self.many else NothingToUndo()
        if name == "redo":
            return self.step(1) if self.many < len(self.turns) else NothingToRedo()
        if name == "turn":
            if [type(side) for side in given] != [int, int] or tuple(sorted(given)) not in pairs(len(league)):
                return Unfit()
            turn = tuple(sorted(given))
            if kind_of(league, *turn) == "none":
                return Refused(turn)
            return self.edit(turn)
        turns = {"rise": rises_in, "fall": falls_in}[name](league)
        return self.edit(turns[0]) if turns else Unfit()

    def step(self, by):
        self.many += by
        return self.many

    def edit(self, turn):
        if self.many == 40:
            return TooManyEdits()
        self.leagues[self.many + 1:] = [turned_over(self.leagues[self.many], turn)]
        self.turns[self.many:] = [turn]
        return self.step(1)


def some_calls(n, seed, many):
    """Return a mixed row of calls, each a name and what is handed in; the same ones for equal seeds."""
    calls, number = [], seed
    for _ in range(many):
        number = (number * 1103515245 + 12345) % 2 ** 31
        kind, a, b = number >> 8 & 15, (number >> 12) % n, (number >> 18) % n
        if kind < 7:
            calls.append(("turn", a, b))
        else:
            calls.append((("rise", "fall", "undo", "redo", "undo", "rise", "fall", "redo", "undo")[kind - 7],))
    return calls


class PlainShell:
    """A shell by plain means."""

    def __init__(self):
        self.desk = None

    def say(self, line):
        told = type(line) is str and re.fullmatch(
            "(league|joined|far) (.*)|turn ([a-h]) ([a-h])|rise|fall|undo|redo|"
            "show|wins|rings|sign|rows|open|order|ends", line, re.DOTALL,
        )
        if not told:
            return "what"
        if self.desk is None and told[1] != "league":
            return "no league"
        found = self.answer(told)
        return "error " + type(found).__name__ if isinstance(found, LevelError) else found

    def answer(self, told):
        """Return the answer, or the error that is raised."""
        word = told[0].split(" ")[0]
        if word == "league":
            league = league_read(told[2])
            if league is None:
                return BadText(told[2])
            self.desk = PlainDesk(league)
            return "version 0"
        if word in ("turn", "rise", "fall", "undo", "redo"):
            sides = [LETTERS.index(letter) for letter in told.group(3, 4)] if word == "turn" else []
            found = self.desk.call(word, *sides)
            return found if isinstance(found, LevelError) else "version " + str(found)
        return self.look(word, told[2])

    def look(self, word, text):
        league = self.desk.leagues[self.desk.many]
        if word == "show":
            return league_letters(league)
        if word == "order":
            order = tuple(sorted(range(len(league)), key=lambda side: -len(league[side])))
            return letters(order) if ranked(order) == league else "none"
        if word not in ("joined", "far"):
            return answer_told(word, [league])
        other = league_read(text)
        if other is None:
            return BadText(text)
        if len(other) != len(league):
            return Unfit()
        if word == "far" and len(league) > 4:
            return TooMany(4)
        return answer_told(word, [league, other])
