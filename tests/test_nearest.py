from itertools import combinations, permutations, product

from levelturns.errors import TooMany, Unfit
from levelturns.leagues import contrary, renamed
from levelturns.nearest import differing, direct_way, distance, nearest_way
from levelturns.reached import ends
from levelturns.risings import row_at, row_count
from tests.checks import Case
from tests.judges import behind, differing_in, kind_of, ring_number, seconds, sign_of, steps_from, turned_over
from tests.samples import all_leagues, all_orders, league_numbered, pairs, ranked, round_league, some_leagues

CIRCLE = ((1,), (2,), (0,))
STEPS = ((1, 2), (2,), ())
QUAD = ((1, 2), (2, 3), (3,), (0,))
GREAT = round_league(8)
LARGE = [round_league(n) for n in (5, 6, 7, 8)] + [ranked(range(n)) for n in (5, 6, 7, 8)]


def pairs_of_leagues(n):
    return list(product(all_leagues(n), all_leagues(n)))


def least_direct(one, other):
    """Return the least direct way, by a plain search without any memory; None if there is none."""
    left = differing_in(one, other)
    for turn in left:
        if kind_of(one, *turn) != "none":
            rest = least_direct(turned_over(one, turn), other)
            if rest is not None:
                return (turn, *rest)
    return None if left else ()


def turned_at(league, matches):
    for match in matches:
        league = turned_over(league, match)
    return league


class DifferingTest(Case):
    def test_few_sides(self):
        for n in range(1, 5):
            for one, other in pairs_of_leagues(n):
                self.assert_same(differing(one, other), tuple(differing_in(one, other)), (one, other))

    def test_many_sides(self):
        for n in range(5, 9):
            for one, other in product(some_leagues(n)[::3], some_leagues(n)[::4]):
                self.assert_same(differing(one, other), tuple(differing_in(one, other)), (one, other))

    def test_none_and_all(self):
        for league in LARGE:
            self.assert_same(differing(league, league), ())
            self.assert_same(differing(league, contrary(league)), tuple(pairs(len(league))))

    def test_by_name(self):
        self.assert_same(differing(one=CIRCLE, other=STEPS), ((0, 2),))


class DirectWayTest(Case):
    def test_few_sides(self):
        for n in range(1, 5):
            for one, other in pairs_of_leagues(n):
                self.assert_same(direct_way(one, other), least_direct(one, other), (one, other))

    def test_few_matches_in_any_row(self):
        for one, other in pairs_of_leagues(4)[::5]:
            matches = differing_in(one, other)
            if len(matches) < 5:
                rows = [row for row in permutations(matches) if behind(one, row) is not None]
                self.assert_same(direct_way(one, other), min(rows, default=None), (one, other))

    def test_many_sides_and_up_to_eight_matches(self):
        found = {True: 0, False: 0}
        for league in LARGE + some_leagues(8)[::8]:
            for many in range(1, 9):
                for step in range(1, 5):
                    matches = pairs(len(league))[step::step][:many]
                    other = turned_at(league, matches)
                    self.assert_same(direct_way(league, other), least_direct(league, other), (league, other))
                    found[direct_way(league, other) is None] += 1
        self.assertTrue(all(found.values()), found)

    def test_behind_turns_that_can_be_done(self):
        for league in LARGE:
            row = row_at(league, row_count(league) // 2)
            for many in range(9):
                other = behind(league, row[:many])
                self.assert_same(direct_way(league, other), least_direct(league, other), (league, other))
                self.assert_same(direct_way(other, league), least_direct(other, league), (other, league))

    def test_too_many_matches(self):
        for league in LARGE:
            matches = pairs(len(league))
            for many in (9, 10, len(matches)):
                other = turned_at(league, matches[:many])
                self.assert_raises(TooMany(8), direct_way, league, other)
            other = turned_at(league, matches[-8:])
            self.assert_same(direct_way(league, other), least_direct(league, other), league)

    def test_eight_matches_in_a_short_time(self):
        for league in (GREAT, round_league(7)):
            for step in range(1, 4):
                other = turned_at(league, pairs(len(league))[::step][:8])
                self.assertLess(seconds(direct_way, league, other), 2)

    def test_to_the_same_league(self):
        for league in LARGE + [((),), STEPS, QUAD]:
            self.assert_same(direct_way(league, league), ())

    def test_by_name(self):
        self.assert_same(direct_way(one=CIRCLE, other=STEPS), ((0, 2),))
        self.assert_same(direct_way(other=ranked((1, 0, 2)), one=STEPS), None)


class DistanceTest(Case):
    def check(self, one, other, there):
        if other not in there:
            self.assert_raises(Unfit(), distance, one, other)
            self.assert_raises(Unfit(), nearest_way, one, other)
            return
        self.assert_same(distance(one, other), there[other], (one, other))
        found = nearest_way(one, other)
        self.assertEqual(behind(one, found), other, (one, other, found))
        self.assertEqual(len(found), there[other], (one, other, found))

    def test_all_pairs(self):
        for n in range(1, 5):
            for one in all_leagues(n):
                there = steps_from(one)
                for other in all_leagues(n):
                    self.check(one, other, there)

    def test_too_many_sides_told_ahead_of_unfit(self):
        for league in LARGE:
            for other in (league, turned_over(league, (0, 1)), contrary(league), ranked(range(len(league))[::-1])):
                self.assert_raises(TooMany(4), distance, league, other)
                self.assert_raises(TooMany(4), nearest_way, league, other)

    def test_the_greatest_distance_in_a_short_time(self):
        one = ranked(range(4))
        there = steps_from(one)
        for other in [league for league in there if there[league] == max(there.values())]:
            self.assertLess(seconds(distance, one, other), 2)
            self.assertLess(seconds(nearest_way, one, other), 2)

    def test_by_name(self):
        self.assert_same(distance(one=CIRCLE, other=STEPS), 1)
        self.assert_same(nearest_way(other=STEPS, one=CIRCLE), ((0, 2),))
        self.assert_raises(Unfit(), distance, other=contrary(CIRCLE), one=CIRCLE)


class WhatHoldsTest(Case):
    def joined_pairs(self, n):
        return [(one, other) for one, other in pairs_of_leagues(n) if sign_of(one) == sign_of(other)]

    def test_matches_and_rings_that_differ(self):
        for one, other in self.joined_pairs(4):
            many, matches = distance(one, other), len(differing(one, other))
            self.assertIn(many - matches, (0, 2), (one, other))
            self.assertEqual(many == matches, direct_way(one, other) is not None, (one, other))
            rings = abs(ring_number(one) - ring_number(other))
            self.assertGreaterEqual(many, rings)
            self.assertEqual(many % 2, rings % 2)

    def test_whole_rows_of_rises_are_shortest_ways(self):
        for league in all_leagues(4):
            for order in ends(league):
                self.assert_same(distance(league, ranked(order)), ring_number(league), (league, order))

    def test_there_and_back(self):
        for one, other in self.joined_pairs(4):
            self.assert_same(distance(one, other), distance(other, one), (one, other))
            self.assertEqual(direct_way(one, other) is None, direct_way(other, one) is None, (one, other))
            self.assertEqual(behind(other, nearest_way(one, other)[::-1]), one, (one, other))
            self.assertEqual(distance(one, other) == 0, one == other)

    def test_by_a_third_league(self):
        leagues = [league for league in all_leagues(4) if sign_of(league) == 0][::3]
        for one, other, third in combinations(leagues, 3):
            self.assertLessEqual(distance(one, third), distance(one, other) + distance(other, third))

    def test_renamed_and_turned_about(self):
        for one, other in self.joined_pairs(4)[::13]:
            many = distance(one, other)
            self.assert_same(distance(contrary(one), contrary(other)), many)
            self.assert_same(differing(contrary(one), contrary(other)), differing(one, other))
            for order in all_orders(4)[::3]:
                first, second = renamed(one, order), renamed(other, order)
                self.assert_same(distance(first, second), many, (one, other, order))
                self.assertEqual(direct_way(first, second) is None, direct_way(one, other) is None)
                called = sorted(tuple(sorted((order[a], order[b]))) for a, b in differing(first, second))
                self.assertEqual(called, list(differing(one, other)), (one, other, order))


class ConventionsTest(Case):
    def test_equal_calls_leave_what_they_are_handed(self):
        for one, other in (
            (QUAD, ranked((0, 1, 3, 2))), (QUAD, ranked((0, 1, 2, 3))), (GREAT, turned_over(GREAT, (0, 1))),
            (GREAT, league_numbered(8, 9)),
        ):
            self.assert_untouched(differing, one, other)
            self.assert_untouched(direct_way, one, other)
            self.assert_untouched(distance, one, other)
            self.assert_untouched(nearest_way, one, other)
