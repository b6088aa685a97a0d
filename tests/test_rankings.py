from itertools import product

from levelturns.leagues import league_error, renamed, wins
from levelturns.rankings import order_error, order_of, ranking
from tests.checks import Case
from tests.samples import LARGE, LEAGUES, ODD_VALUES, SMALL, all_orders, ranked, round_league, some_orders

ORDERS = [order for n in range(1, 6) for order in all_orders(n)] + [
    order for n in (6, 7, 8) for order in some_orders(n)
]


class OrderErrorTest(Case):
    def test_orders_have_none(self):
        for order in ORDERS:
            self.assert_same(order_error(len(order), order), None, order)

    def test_orders_of_another_number_of_sides(self):
        for order in ORDERS:
            for n in range(1, 9):
                if n != len(order):
                    self.assert_same(order_error(n, order), "form", (n, order))

    def test_too_short_and_too_long(self):
        self.assert_same(order_error(1, ()), "form")
        self.assert_same(order_error(3, (0, 1)), "form")
        self.assert_same(order_error(3, (0, 1, 2, 0)), "form")
        self.assert_same(order_error(8, tuple(range(9))), "form")
        self.assert_same(order_error(8, tuple(range(7))), "form")

    def test_what_is_no_tuple(self):
        for value in (None, True, 3, "012", "abc", [0, 1, 2], {0: 1, 1: 2, 2: 0}, {}, [], 10 ** 399):
            self.assert_same(order_error(3, value), "form", value)

    def test_items_that_are_no_sides(self):
        for item in (3, -1, True, False, None, "1", "", (), (1,), [1], {}, 10 ** 399, -10 ** 399):
            for place in range(3):
                value = [0, 1, 2]
                value[place] = item
                self.assert_same(order_error(3, tuple(value)), ("side", place), value)
        self.assert_same(order_error(1, (False,)), ("side", 0))
        self.assert_same(order_error(1, (1,)), ("side", 0))
        self.assert_same(order_error(2, (True, 0)), ("side", 0))
        self.assert_same(order_error(8, (0, 1, 2, 3, 4, 5, 6, 8)), ("side", 7))

    def test_items_that_stand_twice(self):
        self.assert_same(order_error(2, (0, 0)), ("twice", 1))
        self.assert_same(order_error(3, (2, 1, 2)), ("twice", 2))
        self.assert_same(order_error(4, (3, 3, 1, 1)), ("twice", 1))
        self.assert_same(order_error(4, (0, 3, 3, 0)), ("twice", 2))
        self.assert_same(order_error(8, (0, 1, 2, 3, 4, 5, 6, 0)), ("twice", 7))

    def test_the_first_one_told_counts(self):
        self.assert_same(order_error(3, (5, 5, True, None)), "form")
        self.assert_same(order_error(3, [5, 5, 5]), "form")
        self.assert_same(order_error(3, (1, 1, 3)), ("side", 2))
        self.assert_same(order_error(3, (3, 3, 3)), ("side", 0))
        self.assert_same(order_error(4, (0, 0, True, 9)), ("side", 2))

    def test_every_row_of_three(self):
        items = [0, 1, 2, 3, -1, True, False, None, "1", (0,)]
        for many in range(5):
            for value in product(items, repeat=many):
                self.assert_same(order_error(3, value), self.told_of_three(value), value)

    def told_of_three(self, value):
        if len(value) != 3:
            return "form"
        for place, item in enumerate(value):
            if repr(item) not in ("0", "1", "2"):
                return ("side", place)
        for place in range(3):
            if value.index(value[place]) != place:
                return ("twice", place)
        return None

    def test_odd_values(self):
        for value in ODD_VALUES:
            for n in range(1, 9):
                how, found = self.assert_untouched(order_error, n, value)
                self.assert_same(how, "returned", value)
                fits = isinstance(value, tuple) and len(value) == n
                self.assertEqual(found != "form", fits, value)
                self.assertIsNotNone(found, value)

    def test_by_name(self):
        self.assert_same(order_error(n=2, value=(1, 0)), None)
        self.assert_same(order_error(value=(1, 1), n=2), ("twice", 1))


class RankingTest(Case):
    def test_each_beat_all_that_stand_behind(self):
        for order in ORDERS:
            self.assert_same(ranking(order), ranked(order), order)
            self.assert_same(league_error(ranking(order)), None, order)

    def test_wins_go_down_along_the_order(self):
        for order in ORDERS:
            found = wins(ranking(order))
            self.assertEqual([found[side] for side in order], list(range(len(order)))[::-1])

    def test_it_is_the_plain_one_renamed(self):
        for order in ORDERS:
            plain = ranking(tuple(range(len(order))))
            back = tuple(order.index(side) for side in range(len(order)))
            self.assert_same(ranking(order), renamed(plain, back), order)

    def test_by_name(self):
        self.assert_same(ranking(order=(1, 0)), ((), (0,)))


class OrderOfTest(Case):
    def test_rankings(self):
        for order in ORDERS:
            self.assert_same(order_of(ranked(order)), order, order)

    def test_small_leagues(self):
        orders = {ranked(order): order for n in range(1, 5) for order in all_orders(n)}
        for league in SMALL:
            self.assert_same(order_of(league), orders.get(league), league)

    def test_large_leagues(self):
        for league in LARGE:
            counts = [len(row) for row in league]
            order = tuple(sorted(range(len(league)), key=lambda side: -counts[side]))
            wanted = order if ranked(order) == league else None
            self.assert_same(order_of(league), wanted, league)

    def test_a_ranking_exactly_if_no_two_are_level(self):
        for league in LEAGUES:
            level = len(set(wins(league))) < len(league)
            self.assertEqual(order_of(league) is None, level, league)

    def test_one_pair_of_rings_is_enough_for_none(self):
        self.assert_same(order_of(((1, 2, 3), (2,), (3,), (1,))), None)
        self.assert_same(order_of(((1,), (2,), (0,), (0, 1, 2))), None)
        self.assert_same(order_of(round_league(8)), None)

    def test_by_name(self):
        self.assert_same(order_of(league=((), (0,))), (1, 0))


class ConventionsTest(Case):
    def test_equal_calls_leave_what_they_are_handed(self):
        self.assert_untouched(order_error, 4, [3, 1, 2, 0])
        self.assert_untouched(order_error, 4, ([3], {}, 2, 0))
        self.assert_untouched(ranking, (3, 1, 2, 0))
        self.assert_untouched(order_of, ranked((3, 1, 2, 0)))
