from itertools import product

from levelturns.errors import Unfit
from levelturns.leagues import contrary, renamed, wins
from levelturns.rankings import order_of
from levelturns.risings import next_counts, row_at, row_count, row_number
from levelturns.signs import sign
from tests.checks import Case
from tests.judges import (
    behind, is_whole_row, kind_of, ring_number, rises_in, seconds, turned_over, whole_rows,
)
from tests.samples import (
    LEAGUES, ODD_VALUES, SMALL, all_leagues, league_numbered, pairs, ranked, round_league, some_leagues, some_orders,
)

CIRCLE = ((1,), (2,), (0,))
STEPS = ((1, 2), (2,), ())
QUAD = ((1, 2), (2, 3), (3,), (0,))
FEW_ROWS = SMALL + some_leagues(5)
GREAT = round_league(8)
GREAT_COUNT = 893110613760

# What is no number of a whole row of rises, whatever the league.
NO_NUMBERS = [-1, -2, -10 ** 399, 10 ** 399, True, False, None, "", "0", "1", (), (0,), [0], {}, {0: 0}, 0.0, ((),)]


def count_of(league, known):
    """Return how many whole rows of rises league has, league by league."""
    if league not in known:
        rises = rises_in(league)
        known[league] = sum(count_of(turned_over(league, turn), known) for turn in rises) if rises else 1
    return known[league]


class RowCountTest(Case):
    def test_few_sides_against_all_rows(self):
        for league in FEW_ROWS:
            self.assert_same(row_count(league), len(whole_rows(league)), league)

    def test_all_leagues_of_five_sides_and_some_of_six(self):
        known = {}
        for league in all_leagues(5) + some_leagues(6)[::4] + [round_league(6)]:
            self.assert_same(row_count(league), count_of(league, known), league)

    def test_rankings_have_the_empty_row_alone(self):
        for n in range(1, 9):
            for order in some_orders(n) if n > 4 else [range(n)]:
                self.assert_same(row_count(ranked(order)), 1)

    def test_all_level_in_a_short_time(self):
        for league in (GREAT, contrary(GREAT), renamed(GREAT, (7, 3, 1, 0, 2, 6, 5, 4))):
            self.assert_same(row_count(league), GREAT_COUNT)
            self.assertLess(seconds(row_count, league), 2)

    def test_by_name(self):
        self.assert_same(row_count(league=QUAD), 6)


class NextCountsTest(Case):
    def test_few_sides_against_all_rows(self):
        for league in FEW_ROWS:
            rows = whole_rows(league)
            wanted = tuple((turn, sum(1 for row in rows if row[0] == turn)) for turn in rises_in(league))
            self.assert_same(next_counts(league), wanted, league)

    def test_many_sides(self):
        for league in LEAGUES:
            found = next_counts(league)
            self.assert_same(tuple(turn for turn, _ in found), tuple(rises_in(league)), league)
            for turn, number in found:
                self.assert_same(number, row_count(turned_over(league, turn)), (league, turn))

    def test_rankings_have_none(self):
        for n in range(1, 9):
            self.assert_same(next_counts(ranked(range(n))), ())

    def test_all_level_in_a_short_time(self):
        self.assertEqual(sum(number for _, number in next_counts(GREAT)), GREAT_COUNT)
        self.assertLess(seconds(next_counts, GREAT), 2)

    def test_by_name(self):
        self.assert_same(next_counts(league=QUAD), (((0, 1), 3), ((2, 3), 3)))


class RowAtTest(Case):
    def test_few_sides_all_rows_one_by_one(self):
        for league in FEW_ROWS:
            rows = whole_rows(league)
            self.assertEqual(rows, sorted(rows))
            for number, row in enumerate(rows):
                self.assert_same(row_at(league, number), row, (league, number))

    def test_numbers_beyond_the_last_one(self):
        for league in LEAGUES:
            many = row_count(league)
            for number in (many, many + 1, 2 * many, many + 10 ** 399):
                self.assert_raises(Unfit(), row_at, league, number)
            self.assertTrue(is_whole_row(league, row_at(league, many - 1)), league)

    def test_what_is_no_number(self):
        for league in (((),), STEPS, CIRCLE, QUAD, GREAT):
            for number in NO_NUMBERS:
                self.assert_raises(Unfit(), row_at, league, number)

    def test_odd_values(self):
        for value in ODD_VALUES:
            if type(value) is not int or value not in range(6):
                how = self.assert_untouched(row_at, QUAD, value)
                self.assert_same(how, ("raised", "Unfit", []), value)

    def test_all_level_in_a_short_time(self):
        numbers = [k * GREAT_COUNT // 12 for k in range(12)] + [1, GREAT_COUNT - 2, GREAT_COUNT - 1]
        rows = [row_at(GREAT, number) for number in sorted(numbers)]
        self.assertEqual(rows, sorted(rows))
        self.assertEqual(len(set(rows)), len(rows))
        for number, row in zip(sorted(numbers), rows):
            self.assertTrue(is_whole_row(GREAT, row), row)
            self.assert_same(row_number(GREAT, row), number)
            self.assertLess(seconds(row_at, GREAT, number), 2)
            self.assertLess(seconds(row_number, GREAT, row), 2)

    def test_the_first_one_and_the_last_one(self):
        for league in LEAGUES:
            for number, place in ((0, 0), (row_count(league) - 1, -1)):
                present, wanted = league, ()
                while rises_in(present):
                    wanted += (rises_in(present)[place],)
                    present = turned_over(present, wanted[-1])
                self.assert_same(row_at(league, number), wanted, league)
                self.assert_same(row_number(league, wanted), number, league)

    def test_by_name(self):
        self.assert_same(row_at(league=CIRCLE, number=2), ((1, 2),))
        self.assert_raises(Unfit(), row_at, number=3, league=CIRCLE)


class RowNumberTest(Case):
    def assert_unfit(self, league, value):
        self.assert_raises(Unfit(), row_number, league, value)

    def test_few_sides_all_rows(self):
        for league in FEW_ROWS:
            for number, row in enumerate(whole_rows(league)):
                self.assert_same(row_number(league, row), number, (league, row))

    def test_each_short_row_of_turns(self):
        turns = pairs(3) + [(1, 0), (0, 3)]
        for league in all_leagues(3):
            rows = whole_rows(league)
            for many in range(4):
                for value in product(turns, repeat=many):
                    if value in rows:
                        self.assert_same(row_number(league, value), rows.index(value), (league, value))
                    else:
                        self.assert_unfit(league, value)

    def test_parts_of_rows_and_more_than_them(self):
        for league in FEW_ROWS[::7] + [GREAT]:
            row = row_at(league, row_count(league) // 2)
            for at in range(len(row)):
                self.assert_unfit(league, row[:at])
            for turn in pairs(len(league)):
                self.assert_unfit(league, row + (turn,))

    def test_falls_among_the_turns(self):
        self.assertEqual(kind_of(STEPS, 0, 2), "fall")
        self.assert_unfit(STEPS, ((0, 2),))
        self.assert_unfit(STEPS, ((0, 2), (0, 2)))
        self.assert_unfit(CIRCLE, ((0, 2), (0, 2), (0, 2)))
        self.assert_unfit(QUAD, ((0, 1), (0, 1), (0, 1), (0, 2)))

    def test_kinds_that_are_not_those_of_a_row(self):
        row = row_at(QUAD, 0)
        self.assertEqual(row, ((0, 1), (0, 2)))
        for value in (
            list(row), [list(turn) for turn in row], ([0, 1], (0, 2)), ((0, 1), [0, 2]), ((False, 1), (0, 2)),
            ((0, True), (0, 2)), ((0, 1), (False, 2)), ((1, 0), (0, 2)), ((0, 1), (2, 0)), ((0, 1, 0), (0, 2)),
            ((0, 4), (0, 2)), ((0, 1), (0, 4)), ((0, 1), (-1, 2)), (row,), "abac", {(0, 1): (0, 2)}, ((0, 1), None),
            (None, (0, 2)), ((0, 1.0), (0, 2)), ((0, 1), "ac"), ((0, 0), (0, 2)), ((0, 1), (0, 10 ** 399)),
        ):
            self.assert_unfit(QUAD, value)

    def test_no_tuple_for_the_empty_row(self):
        self.assert_same(row_number(STEPS, ()), 0)
        for value in ([], {}, "", None, False, 0, [()], ((),)):
            self.assert_unfit(STEPS, value)
            self.assert_unfit(((),), value)

    def test_odd_values(self):
        for value in ODD_VALUES:
            how = self.assert_untouched(row_number, QUAD, value)
            self.assert_same(how, ("raised", "Unfit", []), value)
        self.assert_unfit(QUAD, ((0, 1),) * 4000)

    def test_by_name(self):
        self.assert_same(row_number(league=CIRCLE, value=((0, 2),)), 1)
        self.assert_raises(Unfit(), row_number, value=(), league=CIRCLE)


class WhatHoldsTest(Case):
    def test_as_many_turns_as_rings_to_a_ranking_of_the_sign(self):
        for league in LEAGUES:
            many = row_count(league)
            for number in sorted({0, many // 3, many // 2, many - 1}):
                row = row_at(league, number)
                self.assertTrue(is_whole_row(league, row), (league, row))
                self.assertEqual(len(row), ring_number(league), league)
                self.assertIsNotNone(order_of(behind(league, row)))
                self.assertEqual(sign(behind(league, row)), sign(league))
                self.assert_same(row_number(league, row), number, league)

    def test_the_wins_alone_tell_it_in_whatever_order(self):
        found = {}
        for league in all_leagues(5) + LEAGUES:
            found.setdefault(tuple(sorted(wins(league))), set()).add(row_count(league))
        for counts in found.values():
            self.assertEqual(len(counts), 1)

    def test_the_sum_of_those_that_begin_with_each_turn(self):
        for league in LEAGUES:
            numbers = [number for _, number in next_counts(league)]
            self.assert_same(row_count(league), sum(numbers) if numbers else 1, league)


class ConventionsTest(Case):
    def test_equal_calls_leave_what_they_are_handed(self):
        self.assert_untouched(row_count, league_numbered(8, 977))
        self.assert_untouched(next_counts, league_numbered(8, 977))
        self.assert_untouched(row_at, QUAD, 4)
        self.assert_untouched(row_at, QUAD, [4])
        self.assert_untouched(row_number, QUAD, ((2, 3), (0, 3)))
        self.assert_untouched(row_number, QUAD, [[2, 3], {"a": [0, 3]}])
