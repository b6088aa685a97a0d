import re

from levelturns.books import book_error
from levelturns.booktexts import book_text, read_book
from levelturns.errors import BadLine
from tests.book_samples import BOOK, BOOKS, EMPTY, FOUR, LEAGUES, OF_ONE, OF_TWO, ORDERS, WORDS, name_at
from tests.checks import Case
from tests.judges import seconds
from tests.plain import LETTERS, league_letters, league_read
from tests.samples import LARGE, ODD_VALUES, SMALL, ranked, round_league

TEXT = ["league cup a:b b:c c:a", "league flat a:bc b:c c:", "league quad a:bd b:c c:ad d:b", "order goal bca",
        "order up dbac", "ask wins cup", "ask joined cup flat", "ask row cup goal", "ask row quad up"]

# Lines that may stand nowhere in a text that tells the leagues and orders of TEXT ahead.
BAD_LINES = [
    "", " ", "\t", "#", "cup", "league", "order", "ask", "league ", "order ", "ask ", "league new", "order new",
    "league new ", "order new ", "leaguenew a:b b:", "League new a:b b:", "LEAGUE new a:b b:", " league new a:b b:",
    "league  new a:b b:", "league new  a:b b:", "league new a:b b: ", "league new a:b  b:", "league new a:b b:a",
    "league new a: b:", "league new a", "league new b:", "league new a:c c:", "league new :", "league new ab",
    "league New a:b b:", "league new1 a:b b:", "league wins a:b b:", "league ask a:b b:", "league abcdefghi a:b b:",
    "league  a:b b:", "league a:b b:", "league new,a:b b:", "league new a:b,b:", "league new a:b b:\tc:",
    "league new a:bcdefghi b:cdefghi c:defghi d:efghi e:fghi f:ghi g:hi h:i i:", "leagues new a:b b:",
    "Order new ab", "order  new ab", "order new  ab", "order new ab ", " order new ab", "order new a b", "order new",
    "order new b", "order new aa", "order new ac", "order new aba", "order new AB", "order new a1", "order new 01",
    "order new abcdefghi", "order new i", "order new a:b b:", "order new (0, 1)", "order row ab", "order New ab",
    "order ordering1 ab", "order abcdefghi ab", "order ab", "order  ab", "orders new ab", "order new ab cd",
    "Ask wins cup", "ask  wins cup", "ask wins  cup", "ask wins cup ", " ask wins cup", "ask wins", "ask wins ",
    "ask cup", "ask cup wins", "ask wins cup flat", "ask Wins cup", "ask wins Cup", "ask wins nobody", "ask wins goal",
    "ask ends up", "ask joined cup", "ask joined cup flat cup", "ask joined cup quad", "ask far quad flat",
    "ask differ cup goal", "ask row cup", "ask row cup flat", "ask row goal cup", "ask row cup up", "ask row quad goal",
    "ask row cup goal goal", "ask row goal goal", "ask league cup", "ask order goal", "ask ask cup", "ask wins,cup",
    "ask wins a:b b:c c:a", "ask row cup bca", "ask wins cup#", "ask answer cup", "wins cup", "asks wins cup", "askwins cup",
]


def item_told(line, leagues, orders):
    """Return the item that line tells behind lines that tell these, None if it may not stand there."""
    taken = dict(leagues + orders)
    told = re.fullmatch("league ([a-z]{1,8}) (.*)", line)
    if told and told[1] not in WORDS and told[1] not in taken and league_read(told[2]):
        return (told[1], league_read(told[2]))
    told = re.fullmatch("order ([a-z]{1,8}) ([a-h]{1,8})", line)
    if told and told[1] not in WORDS and told[1] not in taken and sorted(told[2]) == list(LETTERS[:len(told[2])]):
        return (told[1], tuple(LETTERS.index(letter) for letter in told[2]))
    words = tuple(line.split(" ")[1:])
    if not line.startswith("ask ") or not words:
        return None
    sides = [len(taken[name]) for name in words[1:] if name in taken]
    named = [name in dict(leagues) for name in words[1:]]
    fit = (words[0] in OF_ONE and named == [True]) or (words[0] in OF_TWO and named == [True, True])
    fit = fit or (words[0] == "row" and named == [True, False] and words[2] in dict(orders))
    return words if fit and len(set(sides)) == 1 else None


def book_told(value):
    """Return the book that value tells, or the place of its first bad line; by plain means."""
    leagues, orders, asks = [], [], []
    for place, line in enumerate(value.split("\n") if value else []):
        item = item_told(line, leagues, orders)
        if item is None:
            return place
        if line.startswith("league "):
            leagues.append(item)
        elif line.startswith("order "):
            orders.append(item)
        else:
            asks.append(item)
        if len(leagues + orders) > 30 or len(asks) > 30:
            return place
    return (tuple(leagues), tuple(orders), tuple(asks))


def changed(text):
    """Return all strings that come of text by a sign fewer, one more, or another one."""
    found = set()
    for at in range(len(text) + 1):
        found.add(text[:at] + text[at + 1:])
        for sign in " :abdz\n1":
            found.add(text[:at] + sign + text[at:])
            found.add(text[:at] + sign + text[at + 1:])
    return found


class BookTextTest(Case):
    def test_each_line(self):
        for leagues, orders, asks in BOOKS:
            lines = ["league " + name + " " + league_letters(league) for name, league in leagues]
            lines += ["order " + name + " " + "".join(LETTERS[side] for side in order) for name, order in orders]
            lines += ["ask " + " ".join(ask) for ask in asks]
            self.assert_same(book_text((leagues, orders, asks)), "\n".join(lines))

    def test_edges(self):
        self.assert_same(book_text(EMPTY), "")
        self.assert_same(book_text((LEAGUES[:1], (), ())), TEXT[0])
        self.assert_same(book_text(((), (("a", (0,)),), ())), "order a a")
        self.assert_same(book_text(BOOK), "\n".join(TEXT))
        self.assert_same(book_text(((("b", ((),)),), (), (("joined", "b", "b"),))), "league b a:\nask joined b b")

    def test_by_name(self):
        self.assert_same(book_text(book=((), ORDERS[:1], ())), "order goal bca")


class ReadBookTest(Case):
    def assert_bad(self, value, place):
        self.assert_raises(BadLine(place), read_book, value)

    def check(self, value):
        wanted = book_told(value)
        if isinstance(wanted, int):
            self.assert_bad(value, wanted)
        else:
            self.assert_same(read_book(value), wanted, value)
            self.assert_same(book_error(read_book(value)), None, value)

    def test_there_and_back(self):
        for book in BOOKS:
            self.assert_same(read_book(book_text(book)), book)

    def test_each_league_and_each_order(self):
        for league in SMALL + LARGE:
            self.assert_same(read_book("league cup " + league_letters(league)), ((("cup", league),), (), ()))
        for n in range(1, 9):
            for order in (tuple(range(n)), tuple(range(n))[::-1]):
                text = "order goal " + "".join(LETTERS[side] for side in order)
                self.assert_same(read_book(text), ((), (("goal", order),), ()))

    def test_lines_in_another_order(self):
        leagues, orders, asks = TEXT[:3], TEXT[3:5], TEXT[5:]
        for lines in (
            orders + leagues + asks,
            leagues[:1] + orders[:1] + leagues[1:2] + orders[1:] + leagues[2:] + asks,
            leagues[:1] + asks[:1] + leagues[1:2] + asks[1:2] + orders[:1] + asks[2:3] + leagues[2:] + orders[1:] + asks[3:],
            orders[:1] + leagues[:2] + asks[:3] + orders[1:] + leagues[2:] + asks[3:],
            leagues[:2] + asks[:2] + orders + asks[2:3] + leagues[2:] + asks[3:],
        ):
            self.assert_same(read_book("\n".join(lines)), BOOK, lines)

    def test_each_sort_in_the_order_of_its_lines(self):
        found = read_book("\n".join([TEXT[4], TEXT[2], TEXT[8], TEXT[0], TEXT[5], TEXT[3], TEXT[1], TEXT[7], TEXT[6]]))
        self.assert_same(found, (
            (LEAGUES[2], LEAGUES[0], LEAGUES[1]), ORDERS[::-1],
            (("row", "quad", "up"), ("wins", "cup"), ("row", "cup", "goal"), ("joined", "cup", "flat")),
        ))

    def test_all_pairs_of_lines_exchanged(self):
        for one in range(len(TEXT)):
            for other in range(one):
                lines = list(TEXT)
                lines[one], lines[other] = lines[other], lines[one]
                self.check("\n".join(lines))

    def test_a_line_left_out_or_told_twice(self):
        for one in range(len(TEXT)):
            self.check("\n".join(TEXT[:one] + TEXT[one + 1:]))
            for other in range(len(TEXT) + 1):
                self.check("\n".join(TEXT[:other] + TEXT[one:one + 1] + TEXT[other:]))

    def test_each_bad_line_at_each_place(self):
        for line in BAD_LINES:
            self.assertIsNone(item_told(line, LEAGUES, ORDERS), line)
            for place in range(len(TEXT) + 1):
                self.assert_bad("\n".join(TEXT[:place] + [line] + TEXT[place:]), place)

    def test_two_bad_lines_at_once(self):
        for line in BAD_LINES[::3]:
            for other in BAD_LINES[::7]:
                for place in (0, 4, 9):
                    lines = TEXT[:place] + [line] + TEXT[place:] + [other]
                    self.assert_bad("\n".join(lines), place)

    def test_names_that_stand_ahead(self):
        for name in ("cup", "quad", "goal", "up"):
            for line in ("league " + name + " a:b b:", "order " + name + " ab"):
                self.assert_bad("\n".join(TEXT + [line]), 9)
                self.assert_bad("\n".join([line] + TEXT), 1 + [row.split(" ")[1] for row in TEXT].index(name))

    def test_questions_ahead_of_what_they_name(self):
        self.assert_bad("ask wins cup\nleague cup a:b b:c c:a", 0)
        self.assert_bad("league cup a:b b:\nask joined cup flat\nleague flat a:b b:", 1)
        self.assert_bad("league cup a:b b:\nask row cup up\norder up ba", 1)
        self.assert_bad("order up ba\nask row cup up\nleague cup a:b b:", 1)
        self.assert_same(read_book("order up ba\nleague cup a:b b:\nask row cup up")[2], (("row", "cup", "up"),))

    def test_unlike_numbers_of_sides(self):
        for n in range(1, 9):
            for k in range(1, 9):
                text = "\n".join([
                    "league a " + league_letters(ranked(range(n))), "league b " + league_letters(ranked(range(k))),
                    "order c " + LETTERS[:k],
                ])
                for line in ("ask joined a b", "ask far b a", "ask differ a b", "ask row a c"):
                    if n == k:
                        self.assert_same(read_book(text + "\n" + line)[2], (tuple(line.split(" ")[1:]),))
                    else:
                        self.assert_bad(text + "\n" + line, 3)

    def test_short_texts_with_a_sign_changed(self):
        for text in ("league x a:b b:\norder y ba\nask row x y", "order b a\nleague a a:\nask far a a", "league ab a:"):
            for value in changed(text):
                self.check(value)

    def test_line_feeds(self):
        self.assert_same(read_book(""), EMPTY)
        self.assert_bad("\n", 0)
        self.assert_bad("\n\n", 0)
        self.assert_bad("\n".join(TEXT) + "\n", 9)
        self.assert_bad("\n" + "\n".join(TEXT), 0)
        self.assert_bad("\n\n".join(TEXT), 1)
        self.assert_bad("league x a:b\nb:", 0)
        self.assert_bad("league\nx a:b b:", 0)
        self.assert_bad("\n" * 20000, 0)

    def test_thirty_names_and_one_more(self):
        for many in range(28, 34):
            for firsts in (0, 1, 15, 29, 30, many):
                lines = ["league " + name_at(k) + " a:b b:" if k < firsts else "order " + name_at(k) + " ab"
                         for k in range(many)]
                self.check("\n".join(lines))
                self.check("\n".join(lines[::-1]))
        lines = ["league " + name_at(k) + " a:b b:" for k in range(30)]
        asks = ["ask wins " + name_at(0)] * 30
        self.assert_same([len(part) for part in read_book("\n".join(lines + asks))], [30, 0, 30])
        for line in ("league new a:", "order new a", "ask wins " + name_at(1), "wrong"):
            self.assert_bad("\n".join(lines + asks + [line]), 60)
            self.assert_bad("\n".join(lines + asks + [line, line]), 60)
        self.assert_bad("\n".join(lines + ["league new a:"] + asks), 30)

    def test_thirty_questions_and_one_more(self):
        for many in range(28, 34):
            lines = ["league cup a:b b:", *["ask wins cup"] * many, "order up ba"]
            self.check("\n".join(lines))
            if many > 30:
                self.assert_bad("\n".join(lines), 31)

    def test_what_is_no_string(self):
        for value in (None, True, False, 0, 7, -1, (), ("",), [], [""], {}, {"": ""}, EMPTY, BOOK, TEXT, FOUR):
            self.assert_bad(value, -1)

    def test_odd_values(self):
        for value in ODD_VALUES:
            self.assert_untouched(read_book, value)
            if not isinstance(value, str):
                self.assert_bad(value, -1)
            elif value:
                self.assert_bad(value, 0)
                self.check("league cup " + value)
                self.check("ask wins " + value)

    def test_long_texts_in_a_short_time(self):
        lines = ["league " + name_at(k) + " " + league_letters(round_league(8)) for k in range(30)]
        lines += ["ask joined " + name_at(0) + " " + name_at(29)] * 30
        self.assertLess(seconds(read_book, "\n".join(lines)), 1)
        self.assertLess(seconds(book_text, read_book("\n".join(lines))), 1)
        for value in ("order x " + "abcdefgh" * 2400, "ask " + "a " * 9900, "league x " + "a:b " * 4900):
            with self.assertRaises(BadLine):
                read_book(value)

    def test_by_name(self):
        self.assert_same(read_book(value="league x a:"), ((("x", ((),)),), (), ()))
        self.assert_raises(BadLine(0), read_book, value="x")


class ConventionsTest(Case):
    def test_equal_calls_leave_what_they_are_handed(self):
        for book in BOOKS:
            self.assert_untouched(book_text, book)
            self.assert_untouched(read_book, book_text(book))
