from itertools import product

from levelturns.errors import Unfit
from levelturns.leagues import contrary, renamed, turned, wins
from levelturns.rankings import ranking
from levelturns.rings import ring_count, rings
from levelturns.signs import joined, order_sign, sign, way
from tests.checks import Case
from tests.judges import differing_in, is_way, open_in, seconds, sign_of, steps_from, turned_over
from tests.samples import (
    LEAGUES, RENAMINGS, all_leagues, all_orders, league_numbered, pairs, ranked, round_league, some_leagues,
    some_orders,
)

CIRCLE = ((1,), (2,), (0,))
STEPS = ((1, 2), (2,), ())
ORDERS = [order for n in range(1, 7) for order in all_orders(n)] + some_orders(7) + some_orders(8)
FIVE = all_leagues(5)


def sign_by_rounds(order):
    """Return the sign of order by the rounds in which it moves the sides: an even one is odd."""
    seen, odd = set(), 0
    for side in order:
        length = 0
        while side not in seen:
            seen.add(side)
            side, length = order[side], length + 1
        odd += length > 0 and length % 2 == 0
    return odd % 2


def leagues_by_wins(leagues):
    found = {}
    for league in leagues:
        found.setdefault(wins(league), []).append(league)
    return found


class SignTest(Case):
    def test_matches_and_rings_together(self):
        for league in LEAGUES + FIVE:
            self.assert_same(sign(league), sign_of(league), league)

    def test_no_turn_that_can_be_done_changes_it(self):
        for league in LEAGUES:
            for turn in open_in(league):
                self.assert_same(sign(turned_over(league, turn)), sign(league), (league, turn))

    def test_one_side_and_two(self):
        self.assert_same([sign(league) for league in (((),), ((1,), ()), ((), (0,)))], [0, 0, 1])

    def test_by_name(self):
        self.assert_same(sign(league=((), (0,))), 1)


class OrderSignTest(Case):
    def test_all_orders(self):
        for order in ORDERS:
            self.assert_same(order_sign(order), sign_by_rounds(order), order)

    def test_an_exchange_changes_it(self):
        for order in ORDERS:
            for a, b in pairs(len(order)):
                other = list(order)
                other[a], other[b] = other[b], other[a]
                self.assert_same(order_sign(tuple(other)), 1 - order_sign(order), order)

    def test_by_name(self):
        self.assert_same(order_sign(order=(1, 0)), 1)


class JoinedTest(Case):
    def test_all_pairs_of_few_sides(self):
        for n in range(1, 5):
            for one in all_leagues(n):
                there = steps_from(one)
                for other in all_leagues(n):
                    self.assert_same(joined(one, other), other in there, (one, other))

    def test_five_sides(self):
        for one in (FIVE[0], FIVE[1], round_league(5)):
            there = steps_from(one)
            for other in FIVE:
                self.assert_same(joined(one, other), other in there, (one, other))
                self.assert_same(joined(other, one), other in there, (one, other))

    def test_many_sides(self):
        for n in range(5, 9):
            for one, other in product(some_leagues(n), some_leagues(n)[::5]):
                self.assert_same(joined(one, other), sign_of(one) == sign_of(other), (one, other))

    def test_by_name(self):
        self.assert_same(joined(one=CIRCLE, other=STEPS), True)
        self.assert_same(joined(other=contrary(CIRCLE), one=CIRCLE), False)


class WayTest(Case):
    def check(self, one, other):
        """Check the way, whichever one it is; and that it has at most the seventy turns that are enough."""
        if sign_of(one) != sign_of(other):
            self.assert_raises(Unfit(), way, one, other)
            return
        found = way(one, other)
        self.assertTrue(is_way(one, other, found), (one, other, found))
        self.assertLessEqual(len(found), 70, (one, other, found))

    def test_all_pairs_of_few_sides(self):
        for n in range(1, 5):
            for one, other in product(all_leagues(n), all_leagues(n)):
                self.check(one, other)

    def test_five_sides(self):
        for league in FIVE:
            for other in (FIVE[0], FIVE[1], round_league(5)):
                self.check(league, other)
                self.check(other, league)

    def test_many_sides(self):
        for n in range(6, 9):
            leagues = some_leagues(n)
            for one, other in product(leagues[::2], leagues[::3] + leagues[-6:]):
                self.check(one, other)

    def test_between_rankings(self):
        for n in range(1, 6):
            for order in all_orders(n):
                self.check(ranked(range(n)), ranked(order))
        for n in range(6, 9):
            for order, goal in product(some_orders(n), some_orders(n)):
                self.check(ranked(order), ranked(goal))

    def test_to_the_same_league(self):
        for league in LEAGUES:
            self.check(league, league)

    def test_all_level_in_a_short_time(self):
        great = round_league(8)
        for order in some_orders(8):
            for other in (renamed(great, order), contrary(renamed(great, order)), ranked(order), league_numbered(8, 9)):
                for one, goal in ((great, other), (other, great)):
                    self.check(one, goal)
                    if joined(one, goal):
                        self.assertLess(seconds(way, one, goal), 2)

    def test_by_name(self):
        self.assertTrue(is_way(CIRCLE, STEPS, way(one=CIRCLE, other=STEPS)))
        self.assertTrue(is_way(STEPS, CIRCLE, way(other=CIRCLE, one=STEPS)))
        self.assert_raises(Unfit(), way, other=contrary(CIRCLE), one=CIRCLE)


class WhatHoldsTest(Case):
    def test_joined_exactly_if_matches_and_rings_are_even(self):
        for n in range(1, 5):
            for one, other in product(all_leagues(n), all_leagues(n)):
                together = len(differing_in(one, other)) + ring_count(one) + ring_count(other)
                self.assert_same(joined(one, other), together % 2 == 0, (one, other))

    def test_any_match_turned(self):
        for league in LEAGUES:
            counts = wins(league)
            for a, b in pairs(len(league)):
                stays = sign(turned(league, a, b)) == sign(league)
                self.assertEqual(stays, counts[a] % 2 == counts[b] % 2, (league, a, b))

    def test_leagues_with_the_same_wins(self):
        for n in range(1, 5):
            for leagues in leagues_by_wins(all_leagues(n)).values():
                for one, other in product(leagues, leagues):
                    self.assertEqual(joined(one, other), len(differing_in(one, other)) % 2 == 0, (one, other))

    def test_just_half_of_those_with_a_ring_have_the_one_sign(self):
        for n in range(1, 6):
            for leagues in leagues_by_wins(all_leagues(n)).values():
                if ring_count(leagues[0]):
                    self.assertEqual(sum(sign(league) for league in leagues) * 2, len(leagues))
                else:
                    self.assertEqual(len(leagues), 1)

    def test_a_ring_turned(self):
        for league in LEAGUES:
            for a, b, c in rings(league):
                other = turned(turned(turned(league, a, b), b, c), a, c)
                self.assert_same(wins(other), wins(league))
                self.assert_same(sign(other), 1 - sign(league), (league, a, b, c))

    def test_rankings(self):
        for order in ORDERS:
            self.assert_same(sign(ranking(order)), order_sign(order), order)

    def test_renamed(self):
        for league, order in RENAMINGS:
            stays = sign(renamed(league, order)) == sign(league)
            self.assertEqual(stays, order_sign(order) == 0, (league, order))

    def test_as_many_leagues_of_each_sign(self):
        for n in range(2, 6):
            self.assertEqual(sum(sign(league) for league in all_leagues(n)) * 2, len(all_leagues(n)))


class ConventionsTest(Case):
    def test_equal_calls_leave_what_they_are_handed(self):
        great = round_league(8)
        self.assert_untouched(sign, great)
        self.assert_untouched(order_sign, (3, 1, 2, 0))
        self.assert_untouched(joined, CIRCLE, STEPS)
        self.assert_untouched(way, great, renamed(great, (1, 2, 0, 3, 4, 5, 6, 7)))
        self.assert_untouched(way, CIRCLE, contrary(CIRCLE))
