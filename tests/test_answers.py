from levelturns.answers import answered
from levelturns.booktexts import book_text, read_book
from levelturns.books import KEYWORDS
from tests.book_samples import (
    ASKS, BOOK, BOOKS, CIRCLE, EMPTY, LEAGUES, OF_ONE, OF_TWO, ORDERS, STEPS, full_book, name_at, questions_on,
)
from tests.checks import Case
from tests.judges import seconds
from tests.plain import answer_told
from tests.samples import all_leagues, all_orders, league_numbered, ranked, round_league, some_leagues, some_orders


def answers_told(book):
    things = dict(book[0] + book[1])
    return tuple(answer_told(ask[0], [things[name] for name in ask[1:]]) for ask in book[2])


def books_of(asks, leagues, orders=()):
    """Return books in which all of asks are asked, thirty in each at most."""
    return [(leagues, orders, tuple(asks[at:at + 30])) for at in range(0, len(asks), 30)]


class AnsweredTest(Case):
    def check(self, book):
        self.assert_same(answered(book), answers_told(book), book)

    def test_books(self):
        for book in BOOKS:
            self.check(book)

    def test_none_asked(self):
        self.assert_same([answered(EMPTY), answered((LEAGUES, ORDERS, ()))], [(), ()])

    def test_each_question_on_each_league_of_few_sides(self):
        for n in range(1, 5):
            for league in all_leagues(n):
                leagues = (("one", league),)
                self.check((leagues, (), tuple((word, "one") for word in OF_ONE)))

    def test_each_question_on_two_leagues(self):
        for n, step in ((1, 1), (2, 1), (3, 1), (4, 7)):
            leagues = tuple((name_at(k), league) for k, league in enumerate(all_leagues(n)[::step]))
            asks = [ask for ask in questions_on(leagues, ()) if ask[0] in OF_TWO]
            for book in books_of(asks, leagues):
                self.check(book)

    def test_rows_to_each_order(self):
        for league in [((),), *all_leagues(3), *all_leagues(4)[::5]]:
            orders = tuple((name_at(k), order) for k, order in enumerate(all_orders(len(league))))
            asks = questions_on((("one", league),), orders)
            for book in books_of([ask for ask in asks if ask[0] == "row"], (("one", league),), orders):
                self.check(book)

    def test_five_sides(self):
        for league in [round_league(5), *some_leagues(5)[::9]]:
            orders = tuple((name_at(k), order) for k, order in enumerate(some_orders(5)))
            leagues = (("one", league), ("other", league_numbered(5, 77)))
            for book in books_of(questions_on(leagues, orders), leagues, orders):
                self.check(book)

    def test_six_sides_to_eight(self):
        for n in (6, 7, 8):
            for league in (round_league(n), ranked(range(n)), league_numbered(n, 1234567 % 2 ** (n * (n - 1) // 2))):
                leagues, orders = (("one", league), ("other", round_league(n)[::1])), (("goal", tuple(range(n))),)
                for book in books_of(questions_on(leagues, orders), leagues, orders):
                    self.check(book)

    def test_errors_by_their_classes(self):
        leagues = (("six", ranked(range(6))), ("five", round_league(5)), ("cup", CIRCLE), ("flat", STEPS),
                   ("back", ((2,), (0,), (1,))))
        orders = (("oops", (1, 0, 2)), ("plain", tuple(range(6))))
        asks = (("ends", "six"), ("sure", "six"), ("row", "six", "plain"), ("far", "six", "six"), ("far", "five", "five"),
                ("far", "cup", "back"), ("row", "cup", "oops"), ("row", "flat", "oops"))
        self.assert_same(answered((leagues, orders, asks)), (
            "error TooMany", "error TooMany", "error TooMany", "error TooMany", "error TooMany", "error Unfit",
            "error Unfit", "error Unfit",
        ))

    def test_none_where_there_is_nothing(self):
        leagues, orders = (("one", ((),)), ("two", ((), (0,))), ("cup", CIRCLE)), (("a", (0,)), ("ba", (1, 0)))
        asks = (("sure", "one"), ("low", "one"), ("open", "one"), ("row", "one", "a"), ("ends", "one"), ("wins", "one"),
                ("sure", "two"), ("low", "two"), ("open", "two"), ("row", "two", "ba"), ("ends", "two"), ("wins", "two"),
                ("sure", "cup"), ("low", "cup"), ("far", "cup", "cup"), ("differ", "cup", "cup"))
        self.assert_same(answered((leagues, orders, asks)), (
            "none", "none", "none", "none", "a", "0", "ba", "none", "none", "none", "ba", "0 1", "none", "none", "0", "0",
        ))

    def test_great_numbers(self):
        leagues = (("great", round_league(8)),)
        found = answered((leagues, (), (("rows", "great"), ("rings", "great"), ("wins", "great"))))
        self.assert_same(found, ("893110613760", "20", "4 4 4 4 3 3 3 3"))

    def test_names_say_nothing_of_what_they_name(self):
        self.assert_same(answered(((("x", CIRCLE), ("y", STEPS)), (), (("joined", "y", "x"), ("sure", "y")))),
                         ("yes", "ab ac bc"))
        self.assert_same(answered(((("y", CIRCLE), ("x", STEPS)), (), (("joined", "y", "x"), ("sure", "y")))),
                         ("yes", "none"))

    def test_what_is_read_is_answered_alike(self):
        for book in BOOKS:
            self.assert_same(answered(read_book(book_text(book))), answered(book))

    def test_every_word_that_asks(self):
        self.assertEqual(sorted([*OF_ONE, *OF_TWO, "row", "ask", "league", "order"]), list(KEYWORDS))

    def test_thirty_questions_in_a_short_time(self):
        for n, words in ((8, ("rows", "low", "open", "rings")), (5, ("ends", "sure")), (4, ("far",)), (5, ("row",))):
            for word in words:
                book = full_book([round_league(n)] * 29, [tuple(range(n))])
                names = {"far": ("naa", "nab"), "row": ("naa", book[1][0][0])}.get(word, ("naa",))
                self.assertLess(seconds(answered, (book[0], book[1], ((word, *names),) * 30)), 1)

    def test_by_name(self):
        self.assert_same(answered(book=(LEAGUES, ORDERS, ASKS)), ("1 1 1", "yes", "ab", "error Unfit"))


class ConventionsTest(Case):
    def test_equal_calls_leave_what_they_are_handed(self):
        for book in [*BOOKS, BOOK]:
            self.assert_untouched(answered, book)
