import re
from itertools import product

from levelturns.books import KEYWORDS, book_error, is_name
from levelturns.leagues import league_error
from levelturns.rankings import order_error
from tests.book_samples import (
    ASKS, BOOK, BOOKS, CIRCLE, EMPTY, FOUR, LEAGUES, OF_ONE, OF_TWO, ORDERS, STEPS, WORDS, full_book, name_at,
    questions_on,
)
from tests.checks import Case
from tests.samples import ODD_VALUES, all_leagues, ranked, round_league

NO_NAMES = [
    None, True, 7, (), ("cup",), ["cup"], {}, "", " ", "Cup", "CUP", "cup ", " cup", "c p", "cup1", "1", "c-p", "c_p",
    "cup\n", "\n", "c\np", "abcdefghi", "z" * 20000, "a:", *WORDS,
]
NO_LEAGUES = [
    None, True, "a:", [], [(1,), ()], (), ((),) * 9, ((1,), (0,)), ((), ()), ((True,), ()), ((2,), ()), ((1,), 0),
    ((1,), [0]), 3, {}, (0,), ((0,),),
]
NO_ORDERS = [
    None, True, "ab", [], [0], (), (1,), (True,), (False,), (0, 0), (0, 2), (1, 2), (0, -1), tuple(range(9)), (0, "1"),
    ((),), {}, 0, (0, True), (0, 1, 1, 3),
]
NO_ASKS = [
    None, True, 7, "", "wins cup", "wins", [], {}, ["wins", "cup"], (), ("wins",), ("cup",), ("wins", "nobody"),
    ("wins", "cup", "flat"), ("wins", "cup", ""), ("sign", "cup", "cup"), ("joined", "cup"), ("far",),
    ("joined", "cup", "flat", "cup"), ("joined", "cup", "quad"), ("far", "quad", "cup"), ("differ", "flat", "quad"),
    ("row", "cup"), ("row", "goal", "cup"), ("row", "cup", "flat"), ("row", "goal", "goal"), ("row", "cup", "up"),
    ("row", "quad", "goal"), ("row", "cup", "goal", "goal"), ("wins", "goal"), ("ends", "up"), ("joined", "cup", "goal"),
    ("joined", "goal", "goal"), ("ask", "cup"), ("league", "cup"), ("order", "goal"), ("Wins", "cup"), ("wins ", "cup"),
    ("wins", "cup "), ("wins", "Cup"), ("cup", "wins"), (None, "cup"), ("wins", None), (True, "cup"), ("wins", True),
    ("wins", ["cup"]), ("wins", ("cup",)), (["wins"], "cup"), (("wins", "cup"),), ({}, "cup"), ("wins", {}),
    ("wins", CIRCLE), ("joined", "cup", ["flat"]), ("row", "cup", (1, 2, 0)), ("", "cup"), ("wins", ""),
]


class KeywordsTest(Case):
    def test_words(self):
        self.assert_same(KEYWORDS, WORDS)
        self.assertEqual(list(KEYWORDS), sorted(set(KEYWORDS)))


class IsNameTest(Case):
    def test_names(self):
        for value in ("a", "z", "az", "cup", "abcdefgh", "zzzzzzzz", "asks", "as", "rowx", "rowss", "win", "turn", "up"):
            self.assert_same(is_name(value), True, value)

    def test_what_is_none(self):
        for value in NO_NAMES:
            self.assert_same(is_name(value), False, value)

    def test_each_sign(self):
        for number in [10, *range(32, 127)]:
            for value in (chr(number), "a" + chr(number), chr(number) + "a", "abcdefg" + chr(number)):
                wanted = re.fullmatch("[a-z]{1,8}", value) is not None and value not in WORDS
                self.assert_same(is_name(value), wanted, value)

    def test_lengths(self):
        for many in range(30):
            self.assert_same(is_name("q" * many), 1 <= many <= 8, many)

    def test_odd_values(self):
        for value in ODD_VALUES:
            self.assert_same(self.assert_untouched(is_name, value), ("returned", value == "a" or value == "form"), value)

    def test_by_name(self):
        self.assert_same((is_name(value="cup"), is_name(value="row")), (True, False))


class BookErrorTest(Case):
    def test_books_have_none(self):
        for book in BOOKS:
            self.assert_same(book_error(book), None, book)

    def test_what_is_no_triple_of_tuples(self):
        for value in (
            None, True, 3, "", "abc", (), ((),), ((), ()), ((), (), (), ()), [(), (), ()], ([], (), ()), ((), [], ()),
            ((), (), []), (None, (), ()), ((), {}, ()), ((), (), ""), (LEAGUES, ORDERS), [*BOOK], (*BOOK, ()),
            (dict(LEAGUES), ORDERS, ASKS), (LEAGUES, ORDERS, list(ASKS)), {0: (), 1: (), 2: ()},
            (([],), [], ()), ((None,), (), None),
        ):
            self.assert_same(book_error(value), "form", value)

    def check_entries(self, part, label, wrong):
        """Check wrong entries at each place of leagues, or of orders."""
        for entry in wrong:
            for place in range(len(BOOK[part]) + 1):
                entries = (*BOOK[part][:place], entry, *BOOK[part][place:])
                value = (*BOOK[:part], entries, *BOOK[part + 1:])
                self.assert_same(book_error(value), (label, place), value)

    def test_leagues_of_each_wrong_kind(self):
        self.check_entries(0, "league", [(name, CIRCLE) for name in NO_NAMES])
        self.check_entries(0, "league", [("new", league) for league in NO_LEAGUES])
        self.check_entries(0, "league", [
            None, True, "new", "ab", (), ("new",), ["new", CIRCLE], ("new", CIRCLE, CIRCLE), (CIRCLE, "new"), {}, [],
            {"new": CIRCLE}, CIRCLE, ("new", "new"), ("new", list(CIRCLE)), (("new", CIRCLE),),
        ])

    def test_orders_of_each_wrong_kind(self):
        self.check_entries(1, "order", [(name, (0, 1)) for name in NO_NAMES])
        self.check_entries(1, "order", [("new", order) for order in NO_ORDERS])
        self.check_entries(1, "order", [
            None, True, "new", "ab", (), ("new",), ["new", (0,)], ("new", (0,), (0,)), ((0,), "new"), {}, [],
            {"new": (0,)}, (0, 1), ("new", "new"), ("new", [0, 1]), (("new", (0,)),),
        ])

    def test_names_that_stand_ahead(self):
        for place in range(1, 4):
            for name, league in LEAGUES[:place]:
                entries = (*LEAGUES[:place], (name, STEPS), *LEAGUES[place:])
                self.assert_same(book_error((entries, ORDERS, ASKS)), ("league", place), entries)
        for place in range(3):
            for name, _ in LEAGUES + ORDERS[:place]:
                entries = (*ORDERS[:place], (name, (0, 1)), *ORDERS[place:])
                self.assert_same(book_error((LEAGUES, entries, ASKS)), ("order", place), entries)
        self.assert_same(book_error(((*LEAGUES, ("goal", FOUR)), ORDERS, ())), ("order", 0))

    def test_one_league_or_order_under_many_names(self):
        self.assert_same(book_error(((("a", CIRCLE), ("b", CIRCLE)), (("c", (0, 1)), ("d", (0, 1))), ())), None)

    def test_every_question(self):
        asks = questions_on(LEAGUES, ORDERS)
        self.assertEqual(len(asks), 8 * 3 + 3 * 5 + 3)
        for ask in asks:
            self.assert_same(book_error((LEAGUES, ORDERS, (ask,))), None, ask)

    def test_all_rows_of_words_and_names(self):
        asks, names = set(questions_on(LEAGUES, ORDERS)), [name for name, _ in LEAGUES + ORDERS] + ["nobody", "wins"]
        for word in [*WORDS, "cup", "answer", ""]:
            for one in names:
                for ask in [(word,), (word, one)] + [(word, one, other) for other in names]:
                    wanted = None if ask in asks else ("ask", 0)
                    self.assert_same(book_error((LEAGUES, ORDERS, (ask,))), wanted, ask)

    def test_wrong_questions_at_each_place(self):
        for ask in NO_ASKS:
            for place in range(len(ASKS) + 1):
                asks = (*ASKS[:place], ask, *ASKS[place:])
                self.assert_same(book_error((LEAGUES, ORDERS, asks)), ("ask", place), ask)

    def test_questions_may_come_again(self):
        self.assert_same(book_error((LEAGUES, ORDERS, ASKS * 7)), None)

    def test_unlike_numbers_of_sides(self):
        leagues = tuple((name_at(n), round_league(n)) for n in range(1, 9))
        orders = tuple((name_at(n + 10), tuple(range(n))) for n in range(1, 9))
        for n in range(1, 9):
            for k in range(1, 9):
                wanted = None if n == k else ("ask", 0)
                for word in OF_TWO:
                    ask = (word, name_at(n), name_at(k))
                    self.assert_same(book_error((leagues, orders, (ask,))), wanted, ask)
                ask = ("row", name_at(n), name_at(k + 10))
                self.assert_same(book_error((leagues, orders, (ask,))), wanted, ask)

    def test_thirty_names_and_one_more(self):
        for many in range(28, 34):
            for first in (0, 1, 15, many - 1, many):
                leagues = tuple((name_at(k), CIRCLE) for k in range(first))
                orders = tuple((name_at(k), (0, 1)) for k in range(first, many))
                self.assert_same(book_error((leagues, orders, ())), None if many <= 30 else "many", (many, first))

    def test_thirty_questions_and_one_more(self):
        for many in range(28, 34):
            for word in OF_ONE:
                self.assert_same(book_error((LEAGUES, (), ((word, "cup"),) * many)), None if many <= 30 else "many")

    def test_two_faults_at_once(self):
        bad_league, bad_order, bad_ask = ("new", ()), ("new", ()), ("wins", "new")
        thirty = tuple((name_at(k), CIRCLE) for k in range(31))
        for value, wanted in (
            (([*LEAGUES, bad_league], (bad_order,), (bad_ask,)), "form"),
            (((bad_league,), (bad_order,), [bad_ask]), "form"),
            (((bad_league,), (bad_order,), (bad_ask,)), ("league", 0)),
            (((bad_league, bad_league), (), ()), ("league", 0)),
            (((*LEAGUES, bad_league, None), (), ASKS), ("league", 3)),
            ((LEAGUES, (bad_order,), (bad_ask,)), ("order", 0)),
            ((LEAGUES, (*ORDERS, bad_order, bad_order), (bad_ask,)), ("order", 2)),
            ((LEAGUES, ORDERS, (*ASKS, bad_ask, bad_ask)), ("ask", 4)),
            ((thirty, (bad_order,), ()), ("order", 0)),
            ((thirty, (), (bad_ask,)), ("ask", 0)),
            ((thirty + (bad_league,), (), ()), ("league", 31)),
            ((thirty + thirty[:1], (), ()), ("league", 31)),
            ((LEAGUES, (), (("wins", "cup"),) * 31 + (bad_ask,)), ("ask", 31)),
            ((thirty, (), (("wins", name_at(0)),) * 31), "many"),
        ):
            self.assert_same(book_error(value), wanted, value)

    def test_faults_at_each_two_places(self):
        for first in range(4):
            for second in range(first, 5):
                for ask in (None, ("wins",), ("joined", "cup", "quad"), ["wins", "cup"]):
                    asks = list(ASKS) + [("wins", "cup")]
                    asks[first] = asks[second] = ask
                    self.assert_same(book_error((LEAGUES, ORDERS, tuple(asks))), ("ask", first))

    def test_each_league_and_each_order_is_judged_as_the_parts_judge_it(self):
        for league in NO_LEAGUES + all_leagues(3):
            wanted = None if league_error(league) is None else ("league", 0)
            self.assert_same(book_error(((("a", league),), (), ())), wanted, league)
        for order in product(range(-1, 4), repeat=3):
            wanted = None if order_error(3, order) is None else ("order", 0)
            self.assert_same(book_error(((), (("a", order),), ())), wanted, order)

    def test_odd_values(self):
        for value in ODD_VALUES:
            found = self.assert_untouched(book_error, value)
            self.assert_same(found, ("returned", "form"), value)
            if not isinstance(value, tuple):
                for given in ((value, (), ()), ((), value, ()), ((), (), value)):
                    self.assert_same(self.assert_untouched(book_error, given), ("returned", "form"), value)
            for given, wanted in (
                (((value,), (), ()), ("league", 0)), (((("a", value),), (), ()), ("league", 0)),
                (((), (value,), ()), ("order", 0)), (((), (("a", value),), ()), ("order", 0)),
                ((LEAGUES, ORDERS, (value,)), ("ask", 0)), ((LEAGUES, ORDERS, ((value, "cup"),)), ("ask", 0)),
                ((LEAGUES, ORDERS, (("wins", value),)), ("ask", 0)),
            ):
                self.assert_same(self.assert_untouched(book_error, given), ("returned", wanted), value)

    def test_long_parts(self):
        self.assert_same(book_error(((("a", ((),)),) * 900, (), ())), ("league", 1))
        self.assert_same(book_error(((), (), (("wins", "a"),) * 1300)), ("ask", 0))
        self.assert_same(book_error((LEAGUES, (), (("wins", "cup"),) * 1300)), "many")
        names = tuple((3 * "abcdefghij"[k // 100] + 2 * "abcdefghij"[k // 10 % 10] + "abcdefghij"[k % 10], (0,))
                      for k in range(900))
        self.assert_same(book_error(((), names, ())), "many")

    def test_by_name(self):
        self.assert_same(book_error(value=EMPTY), None)
        self.assert_same(book_error(value=None), "form")


class ConventionsTest(Case):
    def test_equal_calls_leave_what_they_are_handed(self):
        for book in BOOKS:
            self.assert_untouched(book_error, book)
        self.assert_untouched(book_error, (full_book([ranked(range(8))] * 30)[0], [{"a": [1]}], ()))
