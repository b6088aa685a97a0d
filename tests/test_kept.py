from levelturns.errors import Unfit
from levelturns.kept import ahead_row, covers, kept_row
from levelturns.leagues import contrary
from tests.checks import Case
from tests.judges import behind, is_whole_row, order_reached, ring_number, seconds, whole_rows
from tests.samples import LEAGUES, SMALL, all_leagues, ranked, round_league

CIRCLE = ((1,), (2,), (0,))
STEPS = ((1, 2), (2,), ())
QUAD = ((1, 2), (2, 3), (3,), (0,))
GREAT = round_league(8)
# The league of F4: 0 covers 1, and two rises put 1 ahead all the same.
MISSED = ((1, 2, 4), (2, 4), (3, 4), (0, 1), (3,))
FIVE = all_leagues(5)


def unlike_sides(league):
    return [(a, b) for a in range(len(league)) for b in range(len(league)) if a != b]


def covering(league, a, b):
    """Return whether a covers b: b, and whoever b beat, are among those that a beat."""
    return set(league[b]) | {b} <= set(league[a])


def places_behind(league, row):
    order = order_reached(behind(league, row))
    return {side: place for place, side in enumerate(order)}


class CoversTest(Case):
    def test_all_unlike_sides(self):
        for league in LEAGUES + FIVE[::3]:
            for a, b in unlike_sides(league):
                self.assert_same(covers(league, a, b), covering(league, a, b), (league, a, b))

    def test_who_covers_has_more_wins(self):
        for league in LEAGUES:
            for a, b in unlike_sides(league):
                if covers(league, a, b):
                    self.assertGreater(len(league[a]), len(league[b]), (league, a, b))

    def test_in_rankings_all_that_stand_ahead(self):
        for order in ((0, 1, 2, 3, 4, 5, 6, 7), (5, 2, 7, 0, 1, 3, 6, 4)):
            for a, b in unlike_sides(ranked(order)):
                self.assert_same(covers(ranked(order), a, b), order.index(a) < order.index(b))

    def test_by_name(self):
        self.assert_same(covers(league=QUAD, a=1, b=2), True)
        self.assert_same(covers(b=1, a=2, league=QUAD), False)


class KeptRowTest(Case):
    def check(self, league, side):
        row = kept_row(league, side)
        self.assertTrue(is_whole_row(league, row), (league, side, row))
        self.assertEqual([turn for turn in row if side in turn], [], (league, side, row))
        self.assertEqual(len(row), ring_number(league))
        last = behind(league, row)
        self.assert_same(last[side], league[side], (league, side))
        place = places_behind(league, row)
        for other in range(len(league)):
            if other != side:
                self.assertEqual(place[side] < place[other], other in league[side], (league, side, row))

    def test_each_side_of_each_league(self):
        for league in LEAGUES + FIVE:
            for side in range(len(league)):
                self.check(league, side)

    def test_rankings_have_the_empty_row(self):
        for n in range(1, 9):
            for side in range(n):
                self.assert_same(kept_row(ranked(range(n)), side), ())

    def test_all_level_in_a_short_time(self):
        for league in (GREAT, contrary(GREAT)):
            for side in range(8):
                self.assertLess(seconds(kept_row, league, side), 2)

    def test_by_name(self):
        self.assert_same(kept_row(league=CIRCLE, side=1), ((0, 2),))
        self.assert_same(kept_row(side=0, league=QUAD), ((2, 3), (1, 3)))


class AheadRowTest(Case):
    def check(self, league, a, b):
        if covering(league, b, a):
            self.assert_raises(Unfit(), ahead_row, league, a, b)
            return
        row = ahead_row(league, a, b)
        self.assertTrue(is_whole_row(league, row), (league, a, b, row))
        place = places_behind(league, row)
        self.assertLess(place[a], place[b], (league, a, b, row))

    def test_all_unlike_sides(self):
        for league in LEAGUES + FIVE:
            for a, b in unlike_sides(league):
                self.check(league, a, b)

    def test_who_covers_stays_ahead_also_where_some_row_would_not_keep_it_there(self):
        self.assertTrue(covering(MISSED, 0, 1))
        turned_about = [row for row in whole_rows(MISSED) if places_behind(MISSED, row)[1] < places_behind(MISSED, row)[0]]
        self.assertNotEqual(turned_about, [])
        self.assert_raises(Unfit(), ahead_row, MISSED, 1, 0)
        self.assertEqual(behind(MISSED, ((1, 3), (0, 1)))[1], (0, 2, 3, 4))

    def test_level_sides_either_way(self):
        for a, b in unlike_sides(round_league(7)):
            self.check(round_league(7), a, b)

    def test_all_level_in_a_short_time(self):
        for a, b in unlike_sides(GREAT):
            self.check(GREAT, a, b)
            if not covering(GREAT, b, a):
                self.assertLess(seconds(ahead_row, GREAT, a, b), 2)

    def test_by_name(self):
        self.assert_same(ahead_row(league=QUAD, a=3, b=1), ((2, 3), (1, 3)))
        self.assert_raises(Unfit(), ahead_row, b=1, a=2, league=QUAD)


class WhatHoldsTest(Case):
    def always_ahead(self, league, a, b):
        places = [places_behind(league, row) for row in whole_rows(league)]
        return all(place[a] < place[b] for place in places)

    def test_who_is_surely_ahead_covers(self):
        for league in SMALL + FIVE[::60] + [MISSED]:
            for a, b in unlike_sides(league):
                if self.always_ahead(league, a, b):
                    self.assertTrue(covers(league, a, b), (league, a, b))

    def test_of_few_sides_the_other_way_round_too(self):
        for league in SMALL:
            for a, b in unlike_sides(league):
                self.assertEqual(covers(league, a, b), self.always_ahead(league, a, b), (league, a, b))


class ConventionsTest(Case):
    def test_equal_calls_leave_what_they_are_handed(self):
        self.assert_untouched(covers, QUAD, 1, 2)
        self.assert_untouched(kept_row, GREAT, 3)
        self.assert_untouched(ahead_row, GREAT, 7, 0)
        self.assert_untouched(ahead_row, QUAD, 2, 1)
