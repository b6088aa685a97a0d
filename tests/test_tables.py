from collections import Counter
from itertools import combinations_with_replacement, permutations, product

from levelturns.errors import Unfit
from levelturns.leagues import contrary, league_error, wins
from levelturns.risings import row_count
from levelturns.signs import sign
from levelturns.tables import (
    all_tables, count_with, league_with, most_rings, rises_of, table_error, table_rings, table_rows, with_rings,
)
from tests.checks import Case
from tests.judges import ring_number, rises_in, seconds, turned_over
from tests.samples import LEAGUES, ODD_VALUES, all_leagues, pairs, round_league

MOST = [0, 0, 1, 2, 5, 8, 14, 20]
EVEN = (4, 4, 4, 4, 3, 3, 3, 3)
WINS = {n: Counter(tuple(len(row) for row in league) for league in all_leagues(n)) for n in range(1, 6)}


def plain_tables(n):
    """Return the tables of n in ascending order of their items, by what the document tells of the least items."""
    return [
        row for row in combinations_with_replacement(range(n), n)
        if sum(row) == n * (n - 1) // 2 and all(sum(row[:k]) >= k * (k - 1) // 2 for k in range(1, n + 1))
    ]


def mixed(table):
    """Return the items of table in a few further orders."""
    return [table, table[::-1], table[1::2] + table[::2], table[3:] + table[:3]]


TABLES = [table for n in range(1, 9) for table in plain_tables(n)]


class TableErrorTest(Case):
    def told(self, value):
        """Return what the document tells of a tuple of one to eight items."""
        n = len(value)
        for place, item in enumerate(value):
            if type(item) is not int or not 0 <= item <= n - 1:
                return ("item", place)
        for k in range(1, n + 1):
            if 2 * sum(sorted(value)[:k]) < k * (k - 1):
                return ("least", k)
        return "sum" if 2 * sum(value) > n * (n - 1) else None

    def test_every_row_of_few_sides(self):
        for n in range(1, 5):
            for value in product([*range(-1, n + 1), True, False, None], repeat=n):
                found = table_error(value)
                self.assert_same(found, self.told(value), value)
                plain = all(type(item) is int for item in value)
                self.assertEqual(found is None, plain and value in WINS[n], value)

    def test_every_row_of_five_sides(self):
        for value in product(range(5), repeat=5):
            self.assert_same(table_error(value), self.told(value), value)
            self.assertEqual(table_error(value) is None, value in WINS[5], value)

    def test_rows_of_many_sides(self):
        for n in (6, 7, 8):
            for row in list(combinations_with_replacement(range(n), n))[::3]:
                for value in mixed(row):
                    self.assert_same(table_error(value), self.told(value), value)

    def test_all_tables_in_any_order(self):
        for table in TABLES:
            for value in mixed(table):
                self.assert_same(table_error(value), None, value)

    def test_the_wins_of_leagues(self):
        for league in LEAGUES:
            self.assert_same(table_error(wins(league)), None, league)

    def test_what_is_no_tuple_of_one_item_to_eight(self):
        for value in (
            (), (0,) * 9, tuple(range(9)), [0], [1, 1, 1], {}, {0: 1, 1: 1, 2: 1}, "111", "", None, True, 0, 1,
            (4,) * 9, (None,) * 9, [True], [(1, 1, 1)],
        ):
            self.assert_same(table_error(value), "form", value)

    def test_items_that_are_none(self):
        for item in (3, -1, True, False, None, "1", "", (), (1,), [1], {}, 10 ** 399, -10 ** 399):
            for place in range(3):
                value = [1, 1, 1]
                value[place] = item
                self.assert_same(table_error(tuple(value)), ("item", place), value)
        self.assert_same(table_error((1,)), ("item", 0))
        self.assert_same(table_error((False,)), ("item", 0))
        self.assert_same(table_error((0, 1, 2, 3, 4, 5, 6, 8)), ("item", 7))

    def test_the_first_one_told_counts(self):
        self.assert_same(table_error((9,) * 9), "form")
        self.assert_same(table_error((0, 0, True)), ("item", 2))
        self.assert_same(table_error((0, 0, 3)), ("item", 2))
        self.assert_same(table_error((None, 7, 7)), ("item", 0))
        self.assert_same(table_error((0, 0, 3, 3)), ("least", 2))
        self.assert_same(table_error((0, 4, 0, 4, 4)), ("least", 2))
        self.assert_same(table_error((7, 7, 7, 7, 7, 7, 0, 0)), ("least", 2))
        self.assert_same(table_error((3, 3, 3, 3)), "sum")
        self.assert_same(table_error((2, 2, 2, 1)), "sum")

    def test_each_number_of_least_items(self):
        for n in range(2, 9):
            for k in range(2, n + 1):
                # A table in which the k least ones have one win fewer than they must.
                value = (*range(k - 2), k - 2, k - 2, *range(k, n))
                self.assert_same(table_error(value), ("least", k), value)
                self.assert_same(table_error(value[::-1]), ("least", k), value)

    def test_odd_values(self):
        for value in ODD_VALUES:
            how, found = self.assert_untouched(table_error, value)
            self.assertEqual(how, "returned")
            fits = isinstance(value, tuple) and 1 <= len(value) <= 8
            self.assert_same(found, self.told(value) if fits else "form", value)

    def test_by_name(self):
        self.assert_same(table_error(value=(1, 1, 0)), ("least", 3))


class LeagueWithTest(Case):
    def test_each_table_in_some_orders(self):
        for table in TABLES:
            for value in mixed(table):
                league = league_with(value)
                self.assert_same(league_error(league), None, value)
                self.assert_same(wins(league), value)

    def test_each_table_of_five_sides(self):
        for n in range(1, 6):
            for table in WINS[n]:
                self.assert_same(league_error(league_with(table)), None, table)
                self.assert_same(wins(league_with(table)), table)

    def test_by_name(self):
        self.assert_same(league_with(table=(0, 1)), ((), (0,)))


class CountWithTest(Case):
    def test_few_sides_one_by_one(self):
        for n in range(1, 6):
            for table, many in WINS[n].items():
                self.assert_same(count_with(table), many, table)

    def test_six_sides_one_by_one(self):
        many = Counter(tuple(len(row) for row in league) for league in all_leagues(6))
        for table in plain_tables(6):
            for value in mixed(table):
                self.assert_same(count_with(value), many[value], value)

    def test_all_tables_together_have_all_leagues(self):
        for n in range(1, 9):
            together = 0
            for table in plain_tables(n):
                orders = 1
                for k in range(1, n + 1):
                    orders *= k
                for item in set(table):
                    for k in range(1, table.count(item) + 1):
                        orders //= k
                together += orders * count_with(table)
            self.assertEqual(together, 2 ** len(pairs(n)))

    def test_even_tables_in_a_short_time(self):
        self.assert_same([count_with(value) for value in ((3,) * 7, EVEN, EVEN[::-1])], [2640, 46144, 46144])
        self.assertLess(max(seconds(count_with, table) for table in plain_tables(8)), 2)

    def test_by_name(self):
        self.assert_same(count_with(table=(2, 1, 1, 2)), 4)


class AllTablesTest(Case):
    def test_few_sides_from_all_leagues(self):
        for n in range(1, 6):
            wanted = tuple(sorted(table for table in WINS[n] if list(table) == sorted(table)))
            self.assert_same(all_tables(n), wanted)

    def test_each_number_of_sides(self):
        for n in range(1, 9):
            self.assert_same(all_tables(n), tuple(plain_tables(n)))
            self.assertEqual(list(all_tables(n)), sorted(set(all_tables(n))))
        self.assertEqual([len(all_tables(n)) for n in range(1, 9)], [1, 1, 2, 4, 9, 22, 59, 167])

    def test_in_a_short_time(self):
        self.assertLess(seconds(all_tables, 8), 2)

    def test_by_name(self):
        self.assert_same(all_tables(n=2), ((0, 1),))


class TableRingsTest(Case):
    def test_each_league(self):
        for league in LEAGUES + all_leagues(5)[::5]:
            self.assert_same(table_rings(wins(league)), ring_number(league), league)

    def test_each_table_in_some_orders(self):
        for table in TABLES:
            for value in mixed(table):
                self.assert_same(table_rings(value), ring_number(league_with(table)), value)

    def test_none_exactly_where_all_items_are_unlike(self):
        for table in TABLES:
            self.assertEqual(table_rings(table) == 0, table == tuple(range(len(table))), table)

    def test_by_name(self):
        self.assert_same(table_rings(table=(2, 1, 1, 2)), 2)


class TableRowsTest(Case):
    def rows_from(self, table, known):
        """Return how many whole rows of rises there are, by a plain walk over the wins."""
        if table not in known:
            total, many = 0, len(table)
            for a in range(many):
                for b in range(a + 1, many):
                    if table[a] == table[b]:
                        rest = [*table]
                        rest[a] += 1
                        rest[b] -= 1
                        total += self.rows_from(tuple(sorted(rest)), known)
            known[table] = total or 1
        return known[table]

    def test_each_table_in_some_orders(self):
        known = {}
        for table in TABLES:
            for value in mixed(table):
                self.assert_same(table_rows(value), self.rows_from(table, known), value)

    def test_each_league(self):
        for league in LEAGUES:
            self.assert_same(table_rows(wins(league)), row_count(league), league)

    def test_even_tables_in_a_short_time(self):
        self.assert_same(table_rows(EVEN), 893110613760)
        self.assertLess(seconds(table_rows, EVEN), 2)

    def test_by_name(self):
        self.assert_same(table_rows(table=(1, 1, 1)), 3)


class RisesOfTest(Case):
    def wanted(self, leagues):
        found = {
            tuple(sorted(wins(turned_over(league, turn)))) for league in leagues for turn in rises_in(league)
        }
        return tuple(sorted(found))

    def test_few_sides_from_all_leagues(self):
        for n in range(1, 6):
            by_wins = {}
            for league in all_leagues(n):
                by_wins.setdefault(wins(league), []).append(league)
            for table, leagues in by_wins.items():
                self.assert_same(rises_of(table), self.wanted(leagues), table)

    def test_many_sides(self):
        for table in TABLES:
            for value in mixed(table):
                self.assert_same(rises_of(value), self.wanted([league_with(table)]), value)

    def test_each_has_a_ring_fewer_and_all_end_alike(self):
        for table in TABLES:
            self.assertEqual(rises_of(table) == (), table_rings(table) == 0, table)
            for behind in rises_of(table):
                self.assert_same(table_error(behind), None)
                self.assert_same(table_rings(behind), table_rings(table) - 1)

    def test_by_name(self):
        self.assert_same(rises_of(table=(1, 1, 1)), ((0, 1, 2),))


class RingsTest(Case):
    def test_most_rings(self):
        self.assert_same([most_rings(n) for n in range(1, 9)], MOST)
        for n in range(1, 6):
            self.assert_same(most_rings(n), max(ring_number(league) for league in all_leagues(n)))
        for n in range(1, 9):
            self.assert_same(most_rings(n), ring_number(round_league(n)))

    def test_reached_just_by_items_within_one_of_one_another(self):
        for table in TABLES:
            most = table_rings(table) == most_rings(len(table))
            self.assertEqual(most, max(table) - min(table) <= 1, table)

    def test_every_number_of_rings(self):
        for n in range(1, 9):
            for number in range(MOST[n - 1] + 1):
                league = with_rings(n, number)
                self.assert_same(league_error(league), None)
                self.assertEqual((len(league), ring_number(league)), (n, number))

    def test_numbers_of_none(self):
        for n in range(1, 9):
            for number in (
                MOST[n - 1] + 1, MOST[n - 1] + 2, 100, -1, -2, 10 ** 399, -10 ** 399, True, False, None, "", "0", "1",
                (), (0,), [0], {}, {0: 0}, ((),),
            ):
                self.assert_raises(Unfit(), with_rings, n, number)

    def test_odd_values(self):
        for value in ODD_VALUES:
            if type(value) is not int or value not in range(21):
                found = self.assert_untouched(with_rings, 8, value)
                self.assert_same(found, ("raised", "Unfit", []), value)

    def test_in_a_short_time(self):
        self.assertLess(max(seconds(with_rings, 8, number) for number in range(21)), 2)

    def test_by_name(self):
        self.assert_same(most_rings(n=7), 14)
        self.assert_same(len(with_rings(n=4, number=2)), 4)
        self.assert_raises(Unfit(), with_rings, number=3, n=4)


class WhatHoldsTest(Case):
    def test_items_in_another_order(self):
        for table in plain_tables(5):
            for value in set(permutations(table)):
                self.assert_same(
                    (table_error(value), count_with(value), table_rings(value), table_rows(value), rises_of(value)),
                    (None, count_with(table), table_rings(table), table_rows(table), rises_of(table)), value,
                )

    def test_an_even_count_exactly_if_there_are_rings(self):
        for table in TABLES:
            many = count_with(table)
            self.assertEqual(many == 1, table_rings(table) == 0, table)
            self.assertEqual(many % 2, int(table_rings(table) == 0), table)

    def test_half_of_the_leagues_have_the_one_sign(self):
        for n in range(3, 6):
            odd = Counter(wins(league) for league in all_leagues(n) if sign(league))
            for table in WINS[n]:
                if table_rings(table):
                    self.assertEqual(2 * odd[table], count_with(table), table)

    def test_rows_are_the_sum_of_those_behind_a_rise(self):
        for table in TABLES:
            total = 0
            for item in set(table):
                many = table.count(item)
                if many > 1:
                    behind = list(table)
                    behind[behind.index(item)] = item - 1
                    behind[behind.index(item)] = item + 1
                    total += many * (many - 1) // 2 * table_rows(tuple(behind))
            self.assertEqual(table_rows(table), total or 1, table)

    def test_contrary_leagues_have_tables_turned_about(self):
        for table in TABLES:
            other = wins(contrary(league_with(table)))
            self.assert_same(count_with(other), count_with(table), table)
            self.assert_same(table_rings(other), table_rings(table), table)


class ConventionsTest(Case):
    def test_equal_calls_leave_what_they_are_handed(self):
        for table in ((1, 1, 1), (2, 1, 1, 2), EVEN):
            for act in (table_error, league_with, count_with, table_rings, table_rows, rises_of):
                self.assert_untouched(act, table)
        for n in range(1, 9):
            for act in (all_tables, most_rings):
                self.assert_untouched(act, n)
        self.assert_untouched(with_rings, 8, 13)
        self.assert_untouched(with_rings, 4, [2])
        self.assert_untouched(table_error, ([1], {"a": [1]}, 1))
