from levelturns.errors import TooMany, Unfit
from levelturns.leagues import contrary, renamed
from levelturns.reached import cheapest, ends, row_to, sure
from levelturns.risings import row_count
from levelturns.signs import order_sign, sign
from tests.checks import Case
from tests.judges import behind, differing_in, order_reached, ring_number, seconds, whole_rows
from tests.samples import (
    SMALL, all_leagues, all_orders, pairs, ranked, round_league, some_leagues, some_orders,
)

CIRCLE = ((1,), (2,), (0,))
STEPS = ((1, 2), (2,), ())
QUAD = ((1, 2), (2, 3), (3,), (0,))
SPIN = round_league(5)
# All leagues of few sides, and of five sides some of each kind, the one of all level sides too.
LEAGUES = SMALL + all_leagues(5)[::23] + some_leagues(5)[::4] + [SPIN, contrary(SPIN)]
LARGE = [round_league(n) for n in (6, 7, 8)] + [ranked(range(n)) for n in (6, 7, 8)]


def reached_by(league):
    """Return the orders that rows reach, each with its rows in ascending order; by a plain search."""
    found = {}
    for row in whole_rows(league):
        found.setdefault(order_reached(behind(league, row)), []).append(row)
    return found


def some_prices(n):
    """Return prices of all sorts for the matches of n sides."""
    many = len(pairs(n))
    return [
        (0,) * many, (1,) * many, (1000,) * many, tuple(range(many)), tuple(range(many))[::-1],
        tuple(1000 * (k % 2) for k in range(many)), tuple(k * k * 37 % 1001 for k in range(many)),
        tuple(int(k == 0) for k in range(many)), tuple(5 - k % 3 for k in range(many)),
    ]


class EndsTest(Case):
    def test_all_orders_that_rows_reach(self):
        for league in LEAGUES:
            self.assert_same(ends(league), tuple(sorted(reached_by(league))), league)

    def test_rankings_reach_their_own_order(self):
        for n in range(1, 6):
            for order in all_orders(n):
                self.assert_same(ends(ranked(order)), (order,))

    def test_too_many_sides(self):
        for league in LARGE:
            self.assert_raises(TooMany(5), ends, league)

    def test_by_name(self):
        self.assert_same(ends(league=CIRCLE), ((0, 1, 2), (1, 2, 0), (2, 0, 1)))
        self.assert_raises(TooMany(5), ends, league=LARGE[0])


class RowToTest(Case):
    def test_each_order(self):
        for league in LEAGUES:
            reached = reached_by(league)
            for order in all_orders(len(league)):
                if order in reached:
                    self.assert_same(row_to(league, order), min(reached[order]), (league, order))
                else:
                    self.assert_raises(Unfit(), row_to, league, order)

    def test_too_many_sides_told_ahead_of_all_else(self):
        for league in LARGE:
            for order in (tuple(range(len(league))), tuple(range(len(league)))[::-1]):
                self.assert_raises(TooMany(5), row_to, league, order)

    def test_by_name(self):
        self.assert_same(row_to(league=QUAD, order=(1, 0, 2, 3)), ((0, 1), (0, 3)))
        self.assert_raises(Unfit(), row_to, order=(0, 1, 2, 3), league=QUAD)


class SureTest(Case):
    def test_those_ahead_behind_all_rows(self):
        for league in LEAGUES:
            orders = list(reached_by(league))
            sides = range(len(league))
            wanted = tuple(
                (a, b) for a in sides for b in sides
                if a != b and all(order.index(a) < order.index(b) for order in orders)
            )
            self.assert_same(sure(league), wanted, league)

    def test_edges(self):
        self.assert_same(sure(((),)), ())
        self.assert_same(sure(((), (0,))), ((1, 0),))
        self.assert_same(sure(ranked((4, 2, 0, 3, 1))), tuple(sorted(
            (a, b) for at, a in enumerate((4, 2, 0, 3, 1)) for b in (4, 2, 0, 3, 1)[at + 1:]
        )))

    def test_too_many_sides(self):
        for league in LARGE:
            self.assert_raises(TooMany(5), sure, league)

    def test_by_name(self):
        self.assert_same(sure(league=QUAD), ((1, 2),))


class CheapestTest(Case):
    def wanted(self, rows, league, prices):
        price_of = dict(zip(pairs(len(league)), prices))
        return min((sum(price_of[turn] for turn in row), row) for row in rows)

    def test_prices_of_all_sorts(self):
        for league in LEAGUES:
            rows = whole_rows(league)
            for prices in some_prices(len(league)):
                self.assert_same(cheapest(league, prices), self.wanted(rows, league, prices), (league, prices))

    def test_one_match_that_costs_less_or_more(self):
        for league in (CIRCLE, QUAD, SPIN):
            rows, many = whole_rows(league), len(pairs(len(league)))
            for at in range(many):
                for usual, other in ((0, 1), (1, 0), (1000, 0), (0, 1000)):
                    prices = tuple(other if k == at else usual for k in range(many))
                    self.assert_same(cheapest(league, prices), self.wanted(rows, league, prices), (league, prices))

    def test_a_match_turned_again_counts_again(self):
        free = (0, 9, 0, 9, 9, 9, 9, 9, 9, 9)
        price, row = cheapest(SPIN, free)
        self.assertEqual(row.count((0, 3)), 2)
        paid = (0, 9, 1, 9, 9, 9, 9, 9, 9, 9)
        self.assert_same(cheapest(SPIN, paid), self.wanted(whole_rows(SPIN), SPIN, paid))
        self.assertGreater(cheapest(SPIN, paid)[0], price)

    def test_edges(self):
        self.assert_same(cheapest(((),), ()), (0, ()))
        self.assert_same(cheapest(((), (0,)), (1000,)), (0, ()))
        self.assert_same(cheapest(CIRCLE, (1000, 1000, 1000)), (1000, ((0, 1),)))
        self.assert_same(cheapest(CIRCLE, (1000, 1000, 999)), (999, ((1, 2),)))

    def test_too_many_sides_told_ahead_of_all_else(self):
        for league in LARGE:
            many = len(pairs(len(league)))
            self.assert_raises(TooMany(5), cheapest, league, (1,) * many)

    def test_by_name(self):
        self.assert_same(cheapest(league=CIRCLE, prices=(5, 3, 9)), (3, ((0, 2),)))
        self.assert_same(cheapest(prices=(1, 1, 1), league=STEPS), (0, ()))


class WhatHoldsTest(Case):
    def test_ends_are_few_and_of_the_sign(self):
        for league in LEAGUES:
            found = ends(league)
            self.assertTrue(1 <= len(found) <= row_count(league), league)
            for order in found:
                self.assertEqual(order_sign(order), sign(league), (league, order))
                differing = len(differing_in(ranked(order), league))
                self.assertLessEqual(differing, ring_number(league), (league, order))
                self.assertEqual(differing % 2, ring_number(league) % 2, (league, order))
                self.assertEqual(behind(league, row_to(league, order)), ranked(order))

    def test_all_matches_turned(self):
        for league in LEAGUES:
            wanted = tuple(sorted(order[::-1] for order in ends(league)))
            self.assert_same(ends(contrary(league)), wanted, league)

    def test_sides_called_otherwise(self):
        for league in LEAGUES[::3]:
            for order in some_orders(len(league)) if len(league) > 1 else [(0,)]:
                found = ends(renamed(league, order))
                called = sorted(tuple(order[side] for side in one) for one in found)
                self.assertEqual(called, list(ends(league)), (league, order))

    def test_sure_tells_an_order_of_some(self):
        for league in LEAGUES:
            found = sure(league)
            for a, b in found:
                self.assertNotIn((b, a), found)
                self.assertTrue(b in league[a] and set(league[b]) <= set(league[a]), (league, a, b))
                for c, d in found:
                    if b == c:
                        self.assertIn((a, d), found)

    def test_parts(self):
        # 0 and 4 beat 1, 2 and 3, which are a ring.
        league = ((1, 2, 3, 4), (2,), (3,), (1,), (1, 2, 3))
        for row in whole_rows(league):
            for a, b in row:
                self.assertFalse({a, b} & {0, 4})
        self.assert_same(sure(league), ((0, 1), (0, 2), (0, 3), (0, 4), (4, 1), (4, 2), (4, 3)))

    def test_one_price_for_all_matches(self):
        for league in LEAGUES:
            many = len(pairs(len(league)))
            least = whole_rows(league)[0]
            for price in (0, 1, 7, 1000):
                found = cheapest(league, (price,) * many)
                self.assert_same(found, (price * ring_number(league), least), league)


class ConventionsTest(Case):
    def test_all_five_level_in_a_short_time(self):
        self.assertLess(seconds(ends, SPIN), 2)
        self.assertLess(seconds(sure, SPIN), 2)
        self.assertLess(seconds(row_to, SPIN, ends(SPIN)[-1]), 2)
        self.assertLess(seconds(cheapest, SPIN, tuple(range(1000, 990, -1))), 2)

    def test_equal_calls_leave_what_they_are_handed(self):
        for league in (QUAD, SPIN, LARGE[0]):
            self.assert_untouched(ends, league)
            self.assert_untouched(sure, league)
            self.assert_untouched(row_to, league, tuple(range(len(league))))
            self.assert_untouched(cheapest, league, (3,) * len(pairs(len(league))))
