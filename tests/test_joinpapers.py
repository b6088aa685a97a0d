from itertools import product

from levelturns.joinpapers import paper, paper_error
from levelturns.leagues import contrary, renamed
from tests.checks import Case
from tests.judges import differing_in, is_way, ring_number, seconds, sign_of
from tests.samples import ODD_VALUES, all_leagues, deep, ranked, round_league, some_leagues, some_orders

CIRCLE = ((1,), (2,), (0,))
BACK = ((2,), (0,), (1,))
STEPS = ((1, 2), (2,), ())
TWO = ((1,), ()), ((), (0,))


def apart_paper(one, other):
    return ("apart", len(differing_in(one, other)), ring_number(one), ring_number(other))


class PaperTest(Case):
    def check(self, one, other):
        found = paper(one, other)
        if sign_of(one) == sign_of(other):
            self.assertEqual((type(found), len(found), found[0]), (tuple, 2, "way"))
            self.assertTrue(is_way(one, other, found[1]), (one, other, found))
        else:
            self.assert_same(found, apart_paper(one, other), (one, other))
            self.assertEqual(sum(found[1:]) % 2, 1)
        self.assert_same(paper_error(one, other, found), None, (one, other, found))

    def test_all_pairs_of_few_sides(self):
        for n in range(1, 5):
            for one, other in product(all_leagues(n), all_leagues(n)):
                self.check(one, other)

    def test_many_sides(self):
        for n in range(5, 9):
            leagues = some_leagues(n)
            for one, other in product(leagues[::3], leagues[::4] + leagues[-6:]):
                self.check(one, other)

    def test_the_same_league_twice(self):
        for n in range(1, 9):
            self.check(round_league(n), round_league(n))
            self.check(ranked(range(n)), ranked(range(n)))

    def test_all_level_in_a_short_time(self):
        great = round_league(8)
        for order in some_orders(8):
            for other in (renamed(great, order), contrary(renamed(great, order))):
                self.check(great, other)
                self.assertLess(seconds(paper, great, other), 2)
                self.assertLess(seconds(paper_error, great, other, paper(great, other)), 2)

    def test_by_name(self):
        self.assert_same(paper(one=CIRCLE, other=BACK), ("apart", 3, 1, 1))
        self.assert_same(paper(other=TWO[1], one=TWO[0]), ("apart", 1, 0, 0))


class FormTest(Case):
    def test_what_is_neither_sort(self):
        turns = ((0, 2),)
        for value in (
            (), ("way",), ("apart",), ("way", turns, turns), ("way", turns, 1, 0), ("apart", 1), ("apart", turns),
            ("apart", 1, 1), ("apart", 1, 1, 0, 0), ("Way", turns), ("way ", turns), ("", turns), ("form", turns),
            ("Apart", 1, 1, 0), (None, 1, 1, 0), (("way",), turns), ("ways", turns), (turns, "way"), (0, turns),
            ["way", turns], ["apart", 3, 1, 1], {"way": turns}, {0: "way", 1: turns}, "way", "apart", "wa", "apar", None,
            True, 0, turns, (["way"], turns), ({}, turns), (True, turns),
        ):
            for one, other in ((CIRCLE, STEPS), (CIRCLE, BACK), (STEPS, STEPS)):
                self.assert_same(paper_error(one, other, value), "form", value)

    def test_odd_values(self):
        for value in ODD_VALUES:
            found = self.assert_untouched(paper_error, CIRCLE, STEPS, value)
            self.assert_same(found, ("returned", "form"), value)


class WayPaperTest(Case):
    def test_each_short_row_of_turns(self):
        turns = [(0, 1), (0, 2), (1, 2)]
        leagues = all_leagues(3)
        for many in range(5):
            for row in product(turns, repeat=many):
                for one, other in product(leagues, leagues):
                    wanted = None if is_way(one, other, row) else "way"
                    self.assert_same(paper_error(one, other, ("way", row)), wanted, (one, other, row))

    def test_a_way_with_further_turns_there_and_back(self):
        self.assert_same(paper_error(CIRCLE, STEPS, ("way", ((0, 2),) * 3)), None)
        self.assert_same(paper_error(CIRCLE, CIRCLE, ("way", ((0, 1), (0, 1), (1, 2), (1, 2)))), None)

    def test_a_hundred_turns_and_more(self):
        for many in (98, 99, 100):
            goal = (CIRCLE, STEPS)[many % 2]
            self.assert_same(paper_error(CIRCLE, goal, ("way", ((0, 2),) * many)), None)
        for many in (101, 102, 3998):
            goal = (CIRCLE, STEPS)[many % 2]
            self.assert_same(paper_error(CIRCLE, goal, ("way", ((0, 2),) * many)), "way")

    def test_turns_in_another_form(self):
        for turns in (
            [(0, 2)], ([0, 2],), ((2, 0),), ((0, 2, 0),), ((False, 2),), (0, 2), ((0, 3),), ((0, -1),), ((0, 2.0),), None,
            "ac", ("ac",), {}, {(0, 2): 1}, ((0, 2), None), ((0, 2), ()), True, (((0, 2),),), ((0, 1),), ((0, 10 ** 399),),
        ):
            self.assert_same(paper_error(CIRCLE, STEPS, ("way", turns)), "way", turns)

    def test_odd_values(self):
        for value in ODD_VALUES:
            found = self.assert_untouched(paper_error, CIRCLE, STEPS, ("way", value))
            self.assert_same(found, ("returned", "way"), value)
        self.assert_same(paper_error(CIRCLE, CIRCLE, ("way", ())), None)

    def test_no_way_of_leagues_that_are_not_joined(self):
        for turns in ((), ((0, 1),), ((0, 1), (0, 2), (1, 2)), ((0, 2), (0, 1)), [()]):
            self.assert_same(paper_error(CIRCLE, BACK, ("way", turns)), "way", turns)


class ApartPaperTest(Case):
    def test_all_numbers_that_are_near(self):
        for one, other in product(all_leagues(3), all_leagues(3)):
            right = apart_paper(one, other)
            for numbers in product(range(-1, 5), repeat=3):
                value = ("apart", *numbers)
                fits = value == right and sum(numbers) % 2 == 1
                self.assert_same(paper_error(one, other, value), None if fits else "apart", (one, other, value))

    def test_all_pairs_of_four_sides(self):
        for one, other in product(all_leagues(4), all_leagues(4)):
            wanted = None if sign_of(one) != sign_of(other) else "apart"
            self.assert_same(paper_error(one, other, apart_paper(one, other)), wanted, (one, other))

    def test_the_rings_of_each_in_its_place(self):
        # The rings that are told are together as many, but those of one and of other are exchanged.
        spread = ((1, 2, 3), (2,), (3,), (1,))
        goal = next(other for other in all_leagues(4) if ring_number(other) == 2 and sign_of(other) != sign_of(spread))
        matches = len(differing_in(spread, goal))
        self.assert_same(paper_error(spread, goal, ("apart", matches, 1, 2)), None)
        self.assert_same(paper_error(spread, goal, ("apart", matches, 2, 1)), "apart")
        self.assert_same(paper_error(goal, spread, ("apart", matches, 2, 1)), None)

    def test_a_bool_in_the_place_of_an_integer(self):
        for value in (("apart", 3, True, 1), ("apart", 3, 1, True), ("apart", 3, True, True)):
            self.assert_same(paper_error(CIRCLE, BACK, value), "apart", value)
        for value in (("apart", True, 0, 0), ("apart", 1, False, 0), ("apart", 1, 0, False), ("apart", True, False, False)):
            self.assert_same(paper_error(TWO[0], TWO[1], value), "apart", value)
        self.assert_same(paper_error(TWO[0], TWO[1], ("apart", 1, 0, 0)), None)

    def test_what_is_no_integer(self):
        for item in (None, "1", "", (), (1,), [1], {}, 1.0, 10 ** 399, -10 ** 399, -1):
            for place in (1, 2, 3):
                value = ["apart", 3, 1, 1]
                value[place] = item
                self.assert_same(paper_error(CIRCLE, BACK, tuple(value)), "apart", value)

    def test_odd_values(self):
        for value in ODD_VALUES:
            found = self.assert_untouched(paper_error, CIRCLE, STEPS, ("apart", value, 1, 0))
            self.assert_same(found, ("returned", "apart"), value)

    def test_none_of_leagues_that_are_joined(self):
        self.assert_same(paper_error(CIRCLE, STEPS, ("apart", 1, 1, 0)), "apart")
        self.assert_same(paper_error(CIRCLE, CIRCLE, ("apart", 0, 1, 1)), "apart")
        self.assert_same(paper_error(STEPS, STEPS, ("apart", 0, 0, 0)), "apart")


class ConventionsTest(Case):
    def test_by_name(self):
        self.assert_same(paper_error(one=CIRCLE, other=STEPS, value=("way", ((0, 2),))), None)
        self.assert_same(paper_error(value=("apart", 3, 1, 1), other=BACK, one=CIRCLE), None)

    def test_equal_calls_leave_what_they_are_handed(self):
        self.assert_untouched(paper, CIRCLE, BACK)
        self.assert_untouched(paper, round_league(8), ranked((0, 1, 2, 3, 4, 5, 6, 7)))
        self.assert_untouched(paper_error, CIRCLE, STEPS, ["way", [[0, 2]]])
        self.assert_untouched(paper_error, CIRCLE, STEPS, ("way", ([0, 2], {"a": [1]})))
        self.assert_untouched(paper_error, CIRCLE, STEPS, ("apart", [1], {}, deep([0], 15)))
