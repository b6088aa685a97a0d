from itertools import product

from levelturns.halves import filled, half_error, opens
from levelturns.leagues import league_error
from tests.checks import Case
from tests.half_samples import FEW, FOUR, MANY, goes_with, leagues_with, open_matches
from tests.samples import LEAGUES, ODD_VALUES, all_leagues, pairs

SOME = (3, ((0, 1),))


def pair_told(value, n):
    """Return whether value is a pair of unlike sides of n."""
    if type(value) is not tuple or [type(part) for part in value] != [int, int]:
        return False
    return all(0 <= side < n for side in value) and value[0] != value[1]


def error_told(value):
    """Return what the document tells of value, half or not."""
    if type(value) is not tuple or len(value) != 2 or type(value[1]) is not tuple:
        return "form"
    n, won = value
    if type(n) is not int or n not in range(1, 9):
        return "sides"
    for place, item in enumerate(won):
        ahead = won[:place]
        if not pair_told(item, n) or any(item <= other or item == other[::-1] for other in ahead):
            return ("match", place)
    return None


class HalfErrorTest(Case):
    def test_halves_have_none(self):
        for half in FEW + FOUR + MANY:
            self.assert_same(half_error(half), None, half)

    def test_leagues_as_halves(self):
        for league in LEAGUES:
            half = (len(league), tuple((a, b) for a, row in enumerate(league) for b in row))
            self.assert_same(half_error(half), None, half)

    def test_what_is_no_pair_with_a_tuple(self):
        for value in (
            None, True, 3, "", "ab", (), (3,), (3, (), ()), ((), 3), [3, ()], {3: ()}, (3, []), (3, None), (3, {}),
            (3, ""), (3, 0), (3, [(0, 1)]), (9, []), (True, []), ((3, ()),), (3, ((0, 1),), 0), (3, {(0, 1): True}),
        ):
            self.assert_same(half_error(value), "form", value)

    def test_what_is_no_number_of_sides(self):
        for n in (0, 9, 10, -1, True, False, None, "3", "", (3,), [3], {}, 10 ** 399, -10 ** 399):
            for won in ((), ((0, 1),), (0,), ((0, 0),)):
                self.assert_same(half_error((n, won)), "sides", (n, won))
        for n in range(1, 9):
            self.assert_same(half_error((n, ())), None)

    def test_items_that_are_no_pairs_of_unlike_sides(self):
        for item in (
            None, True, 0, "ab", "", (), (0,), (0, 1, 2), [0, 2], [], {}, {0: 2}, (0, 0), (2, 2), (0, 3), (3, 0),
            (-1, 2), (2, -1), (True, 2), (2, True), (False, 2), (1, False), (0, True), ("0", 2), (None, None),
            ((0,), 2), (2, (0,)), (10 ** 399, 0), (2, [0]), (0, 10 ** 399),
        ):
            for place in range(3):
                won = [(0, 1), (1, 2), (2, 0)]
                won[place] = item
                self.assert_same(half_error((3, tuple(won))), ("match", place), won)

    def test_each_fault_at_each_place(self):
        for n in (2, 5, 8):
            whole = tuple(pairs(n))
            for place in range(len(whole)):
                for item in (whole[place][::-1], whole[place - 1], (place % n, place % n), (0, n), [0, 1]):
                    won = (*whole[:place], item, *whole[place + 1:])
                    self.assert_same(half_error((n, won)), error_told((n, won)), won)

    def test_every_row_of_a_few_items(self):
        items = [(a, b) for a in range(-1, 4) for b in range(-1, 4)] + [(0, True), (True, 0), [0, 1], 2]
        for n in range(1, 5):
            for many in range(3):
                for won in product(items, repeat=many):
                    self.assert_same(half_error((n, won)), error_told((n, won)), (n, won))

    def test_three_items_and_more_of_three_sides(self):
        items = [(a, b) for a in range(3) for b in range(3)]
        for many in (3, 4):
            for won in product(items, repeat=many):
                self.assert_same(half_error((3, won)), error_told((3, won)), won)

    def test_the_match_may_be_told_far_ahead(self):
        self.assert_same(half_error((4, ((0, 1), (0, 2), (1, 3), (2, 0)))), ("match", 3))
        self.assert_same(half_error((4, ((0, 1), (0, 2), (1, 3), (3, 0)))), None)
        self.assert_same(half_error((8, ((0, 7), (1, 2), (3, 4), (7, 0)))), ("match", 3))

    def test_the_first_one_told_counts(self):
        self.assert_same(half_error((9, [(0, 0)])), "form")
        self.assert_same(half_error((9, ((0, 0),))), "sides")
        self.assert_same(half_error((3, ((0, 1), (0, 1), (0, 0)))), ("match", 1))
        self.assert_same(half_error((3, ((0, 2), (0, 1), None))), ("match", 1))

    def test_more_items_than_there_are_matches(self):
        self.assert_same(half_error((2, ((0, 1), (1, 0)))), ("match", 1))
        self.assert_same(half_error((1, ((0, 1),))), ("match", 0))
        self.assert_same(half_error((8, tuple(pairs(8)) + ((7, 6),))), ("match", 28))
        self.assert_same(half_error((8, tuple(pairs(8)) * 100)), ("match", 28))

    def test_odd_values(self):
        for value in ODD_VALUES:
            for given in (value, (value, ()), (3, value), (3, (value,)), (3, ((0, 1), value)), (3, ((0, value),))):
                found = self.assert_untouched(half_error, given)
                self.assert_same(found, ("returned", error_told(given)), given)

    def test_by_name(self):
        self.assert_same(half_error(value=SOME), None)
        self.assert_same(half_error(value=[]), "form")


class OpensTest(Case):
    def test_all_matches_that_are_not_told(self):
        for half in FEW + FOUR + MANY:
            self.assert_same(opens(half), tuple(open_matches(half)), half)

    def test_none_told_and_all_told(self):
        for n in range(1, 9):
            self.assert_same(opens((n, ())), tuple(pairs(n)))
            self.assert_same(opens((n, tuple(pairs(n)))), ())
            self.assert_same(opens((n, tuple(sorted((b, a) for a, b in pairs(n))))), ())

    def test_by_name(self):
        self.assert_same(opens(half=SOME), ((0, 2), (1, 2)))


class FilledTest(Case):
    def check(self, half, winners):
        league = filled(half, winners)
        self.assert_same(league_error(league), None, (half, winners))
        self.assertTrue(goes_with(league, half), (half, winners))
        for (a, b), winner in zip(open_matches(half), winners):
            loser = a + b - winner
            self.assertIn(loser, league[winner], (half, winners))
        return league

    def test_all_winners_give_each_league_once(self):
        for half in FEW + FOUR:
            found = [self.check(half, winners) for winners in product(*open_matches(half))]
            self.assertEqual(len(found), 2 ** len(open_matches(half)))
            self.assertEqual(sorted(found), sorted(leagues_with(half)), half)

    def test_large_halves(self):
        for half in MANY:
            free = open_matches(half)
            for winners in (
                tuple(a for a, b in free), tuple(b for a, b in free),
                tuple((a, b)[at % 2] for at, (a, b) in enumerate(free)),
                tuple((a, b)[(a + b) % 3 % 2] for a, b in free),
            ):
                self.check(half, winners)

    def test_all_matches_open_and_none(self):
        for n in range(1, 5):
            for league in all_leagues(n):
                winners = tuple(a if b in league[a] else b for a, b in pairs(n))
                self.assert_same(filled((n, ()), winners), league)
                told = (n, tuple((a, b) for a, row in enumerate(league) for b in row))
                self.assert_same(filled(told, ()), league)

    def test_by_name(self):
        self.assert_same(filled(half=SOME, winners=(0, 1)), ((1, 2), (2,), ()))
        self.assert_same(filled(winners=(2, 1), half=SOME), ((1,), (2,), (0,)))


class ConventionsTest(Case):
    def test_equal_calls_leave_what_they_are_handed(self):
        for half in FEW + MANY[::7]:
            self.assert_untouched(half_error, half)
            self.assert_untouched(opens, half)
            self.assert_untouched(filled, half, tuple(b for a, b in open_matches(half)))
