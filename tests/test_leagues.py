from itertools import product

from levelturns.leagues import beat, contrary, league_error, renamed, turned, wins
from tests.checks import Case
from tests.samples import (
    LARGE, LEAGUES, ODD_VALUES, SMALL, all_orders, league_numbered, pairs, ranked, round_league, some_orders,
)

CIRCLE = ((1,), (2,), (0,))
STEPS = ((1, 2), (2,), ())


def won(league):
    """Return all pairs of a side and one that it beat."""
    return {(a, b) for a, row in enumerate(league) for b in row}


def league_of(n, told):
    """Return the league of n sides in which the pairs told are who beat whom."""
    return tuple(tuple(b for b in range(n) if (a, b) in told) for a in range(n))


class LeagueErrorTest(Case):
    def test_leagues_have_none(self):
        for league in LEAGUES:
            self.assert_same(league_error(league), None, league)

    def test_one_side_eight_sides_and_nine(self):
        self.assert_same(league_error(((),)), None)
        self.assert_same(league_error(ranked(range(8))), None)
        self.assert_same(league_error(round_league(8)), None)
        self.assert_same(league_error(ranked(range(9))), "form")
        self.assert_same(league_error(round_league(9)), "form")
        self.assert_same(league_error(()), "form")

    def test_what_is_no_tuple(self):
        for value in (None, True, 3, "abc", "", [], list(STEPS), {0: (1,), 1: ()}, {}, [()], 10 ** 399):
            self.assert_same(league_error(value), "form", value)

    def test_rows_that_are_none(self):
        for row in (None, 0, 2, True, "2", "", [], [2], {2: True}, (2, 1), (1, 1), (2, 2), (1, 2, 2), (0,), (0, 1),
                    (0, 1, 2), (3,), (1, 3), (-1,), (-1, 1), (-2, -1), (True,), (True, 2), (False,), (1, True),
                    ("1",), (None,), ((1,),), (1, [2]), (1, None), ([], 1), (10 ** 399,), (-10 ** 399, 1),
                    (1, 2) * 2000):
            self.assert_same(league_error((row, (2,), ())), ("side", 0), row)

    def test_a_fault_in_each_row(self):
        for place in range(8):
            for row in ((place,), (8,), (-1,), [], None, (3, 2) if place not in (2, 3) else (1, 0)):
                rows = list(round_league(8))
                rows[place] = row
                self.assert_same(league_error(tuple(rows)), ("side", place), row)

    def test_bools_are_no_sides(self):
        self.assert_same(league_error(((True,), ())), ("side", 0))
        self.assert_same(league_error(((), (False,))), ("side", 1))
        self.assert_same(league_error(((1,), (2,), (False,))), ("side", 2))
        self.assert_same(league_error(((True, 2), (2,), ())), ("side", 0))

    def test_matches_told_of_both_or_of_neither(self):
        for n in range(2, 9):
            for base in (ranked(range(n)), round_league(n)):
                for a, b in pairs(n):
                    told = won(base)
                    both = league_of(n, told | {(a, b), (b, a)})
                    neither = league_of(n, told - {(a, b), (b, a)})
                    self.assert_same(league_error(both), ("match", a, b), both)
                    self.assert_same(league_error(neither), ("match", a, b), neither)

    def test_the_first_one_told_counts(self):
        self.assert_same(league_error([(0,), [1]]), "form")
        self.assert_same(league_error((None,) * 9), "form")
        self.assert_same(league_error(((0,), (1,))), ("side", 0))
        self.assert_same(league_error(((), (), (2,))), ("side", 2))
        self.assert_same(league_error(((1,), (0,), [])), ("side", 2))
        self.assert_same(league_error(((1,), (0,), (2, 3), (3,))), ("side", 2))
        self.assert_same(league_error(((), (), (), ())), ("match", 0, 1))
        self.assert_same(league_error(((1,), (2,), (1,))), ("match", 0, 2))
        self.assert_same(league_error(((1, 2), (), ())), ("match", 1, 2))
        self.assert_same(league_error(((1, 2, 3), (0, 3), (1, 3), (1, 2))), ("match", 0, 1))
        self.assert_same(league_error(((2, 3), (0, 3), (1, 3), (1, 2))), ("match", 1, 3))

    def test_every_three_rows(self):
        rows = [(), (0,), (1,), (2,), (0, 1), (0, 2), (1, 2), (2, 0), (1, 1), (0, 1, 2), (3,), (True,), [1]]
        for value in product(rows, repeat=3):
            self.assert_same(league_error(value), self.told_of_three(value), value)

    def told_of_three(self, value):
        for a, row in enumerate(value):
            fit = [(), tuple(b for b in range(3) if b != a)] + [(b,) for b in range(3) if b != a]
            if repr(row) not in [repr(one) for one in fit]:
                return ("side", a)
        for a, b in pairs(3):
            if (b in value[a]) + (a in value[b]) != 1:
                return ("match", a, b)
        return None

    def test_odd_values(self):
        for value in ODD_VALUES:
            how, found = self.assert_untouched(league_error, value)
            whole = isinstance(value, tuple) and 1 <= len(value) <= 8
            self.assert_same(found if not whole else found[0], "side" if whole else "form", value)

    def test_by_name(self):
        self.assert_same(league_error(value=CIRCLE), None)
        self.assert_same(league_error(value=[]), "form")


class BeatTest(Case):
    def test_each_pair(self):
        for league in LEAGUES:
            told = won(league)
            for a in range(len(league)):
                for b in range(len(league)):
                    self.assert_same(beat(league, a, b), (a, b) in told, (league, a, b))

    def test_by_name(self):
        self.assert_same(beat(league=CIRCLE, a=0, b=1), True)
        self.assert_same(beat(b=0, a=1, league=CIRCLE), False)


class WinsTest(Case):
    def test_wins_are_how_many_each_beat(self):
        for league in LEAGUES:
            told = won(league)
            wanted = tuple(sum(1 for pair in told if pair[0] == side) for side in range(len(league)))
            self.assert_same(wins(league), wanted, league)

    def test_edges(self):
        self.assert_same(wins(((),)), (0,))
        self.assert_same(wins(ranked((1, 0))), (0, 1))
        self.assert_same(wins(ranked(range(8))), (7, 6, 5, 4, 3, 2, 1, 0))

    def test_all_wins_together(self):
        for league in LEAGUES:
            self.assertEqual(sum(wins(league)), len(pairs(len(league))))

    def test_by_name(self):
        self.assert_same(wins(league=CIRCLE), (1, 1, 1))


class TurnedTest(Case):
    def test_one_match_goes_the_other_way(self):
        for league in LEAGUES:
            n, told = len(league), won(league)
            for a, b in pairs(n):
                wanted = league_of(n, told ^ {(a, b), (b, a)})
                self.assert_same(turned(league, a, b), wanted, (league, a, b))
                self.assert_same(turned(league, b, a), wanted, (league, b, a))
                self.assert_same(turned(wanted, a, b), league, (league, a, b))

    def test_one_has_a_win_more_the_other_one_a_win_fewer(self):
        for league in LEAGUES:
            for a, b in pairs(len(league)):
                winner, loser = (a, b) if beat(league, a, b) else (b, a)
                wanted = list(wins(league))
                wanted[winner] -= 1
                wanted[loser] += 1
                self.assert_same(wins(turned(league, a, b)), tuple(wanted), (league, a, b))

    def test_by_name(self):
        self.assert_same(turned(league=CIRCLE, a=0, b=2), STEPS)
        self.assert_same(turned(b=0, a=2, league=CIRCLE), STEPS)


class RenamedTest(Case):
    def test_small(self):
        for league in SMALL:
            for order in all_orders(len(league)):
                self.check(league, order)

    def test_large(self):
        for league in LARGE:
            for order in some_orders(len(league)):
                self.check(league, order)

    def check(self, league, order):
        found, n = renamed(league, order), len(league)
        told = won(league)
        wanted = league_of(n, {(i, j) for i in range(n) for j in range(n) if (order[i], order[j]) in told})
        self.assert_same(found, wanted, (league, order))
        self.assert_same(wins(found), tuple(wins(league)[side] for side in order), (league, order))

    def test_by_name(self):
        self.assert_same(renamed(league=STEPS, order=(2, 0, 1)), ((), (0, 2), (0,)))
        self.assert_same(renamed(order=(1, 2, 0), league=STEPS), ((1,), (), (0, 1)))


class ContraryTest(Case):
    def test_all_matches_go_the_other_way(self):
        for league in LEAGUES:
            n = len(league)
            wanted = league_of(n, {(b, a) for a, b in won(league)})
            self.assert_same(contrary(league), wanted, league)
            self.assert_same(contrary(wanted), league, league)
            self.assert_same(wins(wanted), tuple(n - 1 - one for one in wins(league)), league)

    def test_one_side(self):
        self.assert_same(contrary(((),)), ((),))

    def test_by_name(self):
        self.assert_same(contrary(league=STEPS), ((), (0,), (0, 1)))


class ConventionsTest(Case):
    def test_equal_calls_leave_what_they_are_handed(self):
        league = league_numbered(6, 12345)
        self.assert_untouched(league_error, league)
        self.assert_untouched(beat, league, 1, 2)
        self.assert_untouched(wins, league)
        self.assert_untouched(turned, league, 4, 1)
        self.assert_untouched(renamed, league, (1, 2, 3, 4, 5, 0))
        self.assert_untouched(contrary, league)

    def test_what_comes_is_a_league(self):
        for league in LEAGUES:
            n = len(league)
            self.assert_same(league_error(contrary(league)), None, league)
            self.assert_same(league_error(renamed(league, tuple(range(n))[::-1])), None, league)
            for a, b in pairs(n):
                self.assert_same(league_error(turned(league, a, b)), None, league)
