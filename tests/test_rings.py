from itertools import combinations, permutations

from levelturns.leagues import contrary, renamed, turned, wins
from levelturns.rankings import order_of
from levelturns.rings import ring_change, ring_count, rings, rings_with
from levelturns.turns import led, open_falls, open_rises
from tests.checks import Case
from tests.samples import LEAGUES, RENAMINGS, pairs, ranked, round_league

CROSSED = ((1, 2), (2, 3), (3,), (0,))


def rings_of(league):
    """Return the rings of league, looked for among all threes, each both ways round."""
    found = []
    for three in combinations(range(len(league)), 3):
        for a, b, c in permutations(three):
            if a == min(three) and b in league[a] and c in league[b] and a in league[c]:
                found.append((a, b, c))
    return tuple(sorted(found))


class RingsTest(Case):
    def test_all_rings_ascending(self):
        for league in LEAGUES:
            self.assert_same(rings(league), rings_of(league), league)

    def test_edges(self):
        for league in (((),), ((1,), ()), ((), (0,)), ranked(range(8))):
            self.assert_same(rings(league), ())
        self.assert_same(rings(((1,), (2,), (0,))), ((0, 1, 2),))
        self.assert_same(rings(((2,), (0,), (1,))), ((0, 2, 1),))

    def test_of_three_sides_there_is_one_at_the_most(self):
        for league in LEAGUES:
            threes = [tuple(sorted(ring)) for ring in rings(league)]
            self.assertEqual(len(set(threes)), len(threes), league)

    def test_by_name(self):
        self.assert_same(rings(league=CROSSED), ((0, 1, 3), (0, 2, 3)))


class RingCountTest(Case):
    def test_count(self):
        for league in LEAGUES:
            self.assert_same(ring_count(league), len(rings_of(league)), league)

    def test_greatest_numbers(self):
        self.assertEqual([ring_count(round_league(n)) for n in range(1, 9)], [0, 0, 1, 2, 5, 8, 14, 20])

    def test_the_wins_tell_it(self):
        for league in LEAGUES:
            n = len(league)
            wanted = n * (n - 1) * (n - 2) // 6 - sum(one * (one - 1) // 2 for one in wins(league))
            self.assert_same(ring_count(league), wanted, league)

    def test_none_exactly_in_rankings(self):
        for league in LEAGUES:
            self.assertEqual(ring_count(league) == 0, order_of(league) is not None, league)

    def test_by_name(self):
        self.assert_same(ring_count(league=CROSSED), 2)


class RingsWithTest(Case):
    def test_each_side(self):
        for league in LEAGUES:
            for side in range(len(league)):
                wanted = sum(1 for ring in rings_of(league) if side in ring)
                self.assert_same(rings_with(league, side), wanted, (league, side))

    def test_over_all_sides_three_times_as_many(self):
        for league in LEAGUES:
            together = sum(rings_with(league, side) for side in range(len(league)))
            self.assertEqual(together, 3 * ring_count(league), league)

    def test_by_name(self):
        self.assert_same(rings_with(league=CROSSED, side=3), 2)
        self.assert_same(rings_with(side=1, league=CROSSED), 1)


class RingChangeTest(Case):
    def test_each_match_in_either_order(self):
        for league in LEAGUES:
            before = len(rings_of(league))
            for a, b in pairs(len(league)):
                wanted = len(rings_of(turned(league, a, b))) - before
                self.assert_same(ring_change(league, a, b), wanted, (league, a, b))
                self.assert_same(ring_change(league, b, a), wanted, (league, b, a))

    def test_rises_and_falls(self):
        for league in LEAGUES:
            for turn in open_rises(league):
                self.assert_same(ring_change(league, *turn), -1, (league, turn))
            for turn in open_falls(league):
                self.assert_same(ring_change(league, *turn), 1, (league, turn))

    def test_by_name(self):
        self.assert_same(ring_change(league=CROSSED, a=0, b=3), -2)
        self.assert_same(ring_change(b=0, a=2, league=CROSSED), 0)


class WhatHoldsTest(Case):
    def test_behind_a_row_of_rises(self):
        for league in LEAGUES:
            turns, behind = (), league
            while open_rises(behind):
                turns += open_rises(behind)[-1:]
                behind = led(league, turns)
                self.assertEqual(ring_count(behind), ring_count(league) - len(turns), league)
            self.assertEqual(ring_count(behind), 0, league)

    def test_behind_a_row_of_rises_and_falls(self):
        for league in LEAGUES:
            turns, wanted, behind = (), ring_count(league), league
            for step in range(12):
                rises, falls = open_rises(behind), open_falls(behind)
                if falls and (step % 3 or not rises):
                    turns, wanted = turns + (falls[step % len(falls)],), wanted + 1
                elif rises:
                    turns, wanted = turns + (rises[step % len(rises)],), wanted - 1
                behind = led(league, turns)
                self.assertEqual(ring_count(behind), wanted, (league, turns))

    def test_renamed(self):
        for league, order in RENAMINGS:
            known = {ring[at:] + ring[:at] for ring in rings(league) for at in range(3)}
            found = rings(renamed(league, order))
            self.assertEqual(len(found), ring_count(league), (league, order))
            for a, b, c in found:
                self.assertIn((order[a], order[b], order[c]), known)

    def test_contrary(self):
        for league in LEAGUES:
            wanted = tuple(sorted((a, c, b) for a, b, c in rings(league)))
            self.assert_same(rings(contrary(league)), wanted, league)


class ConventionsTest(Case):
    def test_equal_calls_leave_what_they_are_handed(self):
        self.assert_untouched(rings, CROSSED)
        self.assert_untouched(ring_count, CROSSED)
        self.assert_untouched(rings_with, CROSSED, 2)
        self.assert_untouched(ring_change, CROSSED, 3, 0)
