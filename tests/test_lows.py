from levelturns.leagues import contrary, wins
from levelturns.lows import is_low, low_row
from levelturns.tables import most_rings
from tests.checks import Case
from tests.judges import behind, falls_in, order_reached, ring_number, seconds, turned_over, whole_rows
from tests.samples import LEAGUES, SMALL, all_leagues, all_orders, ranked, round_league, some_orders

CIRCLE = ((1,), (2,), (0,))
STEPS = ((1, 2), (2,), ())
# Leagues with the same wins, of which the one is low and the other one is not.
NEAR = ((1, 2, 3), (2, 4), (3, 4), (1, 4), (0,))
FAR = ((1, 2, 4), (2, 4), (3, 4), (0, 1), (3,))
FIVE = all_leagues(5)
ALL = LEAGUES + FIVE


def wanted_row(league):
    """Return the row of falls in which each time the least one is done, by plain means."""
    row = ()
    while falls_in(league):
        row += (falls_in(league)[0],)
        league = turned_over(league, row[-1])
    return row


def fallen_to(league):
    """Return all leagues to which rows of falls lead from league, itself too."""
    found, left = {league}, [league]
    while left:
        present = left.pop()
        for turn in falls_in(present):
            other = turned_over(present, turn)
            if other not in found:
                found.add(other)
                left.append(other)
    return found


class IsLowTest(Case):
    def test_no_fall_can_be_done(self):
        for league in ALL:
            self.assert_same(is_low(league), not falls_in(league), league)

    def test_of_each_two_sides_two_wins_apart_the_one_with_fewer_won(self):
        for league in ALL:
            many = wins(league)
            sides = range(len(league))
            apart = [(a, b) for a in sides for b in sides if many[a] == many[b] + 2]
            self.assert_same(is_low(league), all(a in league[b] for a, b in apart), league)

    def test_few_sides(self):
        self.assert_same([is_low(((),)), is_low(((1,), ())), is_low(((), (0,)))], [True, True, True])
        self.assert_same([is_low(CIRCLE), is_low(contrary(CIRCLE)), is_low(STEPS)], [True, True, False])

    def test_rankings_of_three_sides_and_more_are_not(self):
        for n in range(3, 9):
            for order in some_orders(n):
                self.assert_same(is_low(ranked(order)), False, order)

    def test_those_with_the_most_rings_are(self):
        for n in range(1, 9):
            self.assert_same(is_low(round_league(n)), True)
        for league in ALL:
            if ring_number(league) == most_rings(len(league)):
                self.assert_same(is_low(league), True, league)

    def test_with_the_same_wins_one_may_be_low_and_the_other_one_not(self):
        self.assertEqual(wins(NEAR), wins(FAR))
        self.assert_same((is_low(NEAR), is_low(FAR)), (True, False))
        self.assertLess(ring_number(NEAR), most_rings(5))

    def test_by_name(self):
        self.assert_same(is_low(league=CIRCLE), True)


class LowRowTest(Case):
    def test_the_least_fall_each_time(self):
        for league in ALL:
            self.assert_same(low_row(league), wanted_row(league), league)

    def test_what_is_behind_it_is_low_with_a_ring_more_for_each_fall(self):
        for league in ALL:
            row = low_row(league)
            last = behind(league, row)
            self.assertEqual(falls_in(last), [], league)
            self.assertEqual(ring_number(last), ring_number(league) + len(row), league)
            self.assertEqual(row == (), is_low(league), league)
            self.assertLessEqual(len(row), most_rings(len(league)) - ring_number(league), league)

    def test_edges(self):
        self.assert_same([low_row(((),)), low_row(((1,), ())), low_row(CIRCLE), low_row(NEAR)], [(), (), (), ()])
        self.assert_same([low_row(STEPS), low_row(FAR)], [((0, 2),), ((0, 4),)])

    def test_eight_sides_in_a_short_time(self):
        for order in some_orders(8):
            self.assertLess(seconds(low_row, ranked(order)), 2)

    def test_by_name(self):
        self.assert_same(low_row(league=STEPS), ((0, 2),))


class WhatHoldsTest(Case):
    def test_whichever_falls_are_done_what_is_come_to_in_the_end_is_low(self):
        for league in SMALL + FIVE[::31] + [ranked(range(5))]:
            for other in fallen_to(league):
                self.assert_same(is_low(other), not falls_in(other), other)
            self.assertTrue(any(is_low(other) for other in fallen_to(league)))

    def test_falls_lead_from_the_rankings_that_rises_reach_and_from_no_other_one(self):
        for n in range(1, 5):
            led_to = {order: fallen_to(ranked(order)) for order in all_orders(n)}
            for league in all_leagues(n):
                reached = {order_reached(behind(league, row)) for row in whole_rows(league)}
                self.assertEqual({order for order in led_to if league in led_to[order]}, reached, league)


class ConventionsTest(Case):
    def test_equal_calls_leave_what_they_are_handed(self):
        for league in (STEPS, NEAR, FAR, ranked(range(8)), round_league(8)):
            self.assert_untouched(is_low, league)
            self.assert_untouched(low_row, league)
