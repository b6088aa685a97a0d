from levelturns.errors import Refused, TooMany
from levelturns.leagues import beat, turned, wins
from levelturns.rankings import order_of
from levelturns.turns import done, led, open_falls, open_rises, turn_error, turn_kind
from tests.checks import Case
from tests.judges import kind_of
from tests.samples import LEAGUES, ODD_VALUES, SMALL, pairs, ranked, round_league

CIRCLE = ((1,), (2,), (0,))
STEPS = ((1, 2), (2,), ())
QUAD = ((1, 2), (2, 3), (3,), (0,))


class TurnKindTest(Case):
    def test_each_match_in_either_order(self):
        for league in LEAGUES:
            for a, b in pairs(len(league)):
                wanted = kind_of(league, a, b)
                self.assert_same(turn_kind(league, a, b), wanted, (league, a, b))
                self.assert_same(turn_kind(league, b, a), wanted, (league, b, a))

    def test_two_fewer_wins_are_no_fall(self):
        near = ((1, 2, 3), (2, 4), (3, 4), (1, 4), (0,))
        self.assert_same(turn_kind(near, 0, 4), "none")
        self.assert_same(turn_kind(near, 4, 0), "none")

    def test_rises_hang_on_the_wins_alone(self):
        rises = {}
        for league in SMALL:
            rises.setdefault(wins(league), set()).add(open_rises(league))
        for found in rises.values():
            self.assertEqual(len(found), 1)

    def test_by_name(self):
        self.assert_same(turn_kind(league=STEPS, a=2, b=0), "fall")
        self.assert_same(turn_kind(b=1, a=0, league=STEPS), "none")


class TurnErrorTest(Case):
    def test_each_match(self):
        for league in LEAGUES:
            for a, b in pairs(len(league)):
                wanted = "bar" if kind_of(league, a, b) == "none" else None
                self.assert_same(turn_error(league, (a, b)), wanted, (league, a, b))

    def test_every_pair(self):
        for league in (((),), ((1,), ()), CIRCLE, STEPS, QUAD, round_league(8)):
            n = len(league)
            items = [*range(-2, n + 2), True, False, None, "0", "a", (0,), [1], {}, 10 ** 399, -10 ** 399]
            for a in items:
                for b in items:
                    whole = type(a) is int and type(b) is int and 0 <= a < b < n
                    wanted = "form"
                    if whole:
                        wanted = "bar" if kind_of(league, a, b) == "none" else None
                    self.assert_same(turn_error(league, (a, b)), wanted, (league, a, b))

    def test_what_is_no_pair(self):
        for value in ((), (0,), (0, 1, 2), (0, 2, 0), [0, 2], {0: 2}, "ac", "02", None, True, 0, 2, ((0, 2),),
                      [(0, 2)]):
            self.assert_same(turn_error(STEPS, value), "form", value)

    def test_odd_values(self):
        for value in ODD_VALUES:
            found = self.assert_untouched(turn_error, QUAD, value)
            self.assert_same(found, ("returned", "form"), value)

    def test_by_name(self):
        self.assert_same(turn_error(league=STEPS, value=(0, 2)), None)
        self.assert_same(turn_error(value=(0, 1), league=STEPS), "bar")


class DoneTest(Case):
    def assert_refused(self, league, value):
        error = self.assert_raises(Refused(value), done, league, value)
        self.assertIs(error.turn, value)

    def test_each_match(self):
        for league in LEAGUES:
            for turn in pairs(len(league)):
                if kind_of(league, *turn) == "none":
                    self.assert_refused(league, turn)
                else:
                    self.assert_same(done(league, turn), turned(league, *turn), (league, turn))

    def test_what_is_no_turn(self):
        for value in ((2, 0), (0, 3), (-1, 2), (0, 0), (False, 2), (0, True), [0, 2], (0,), (0, 2, 1), None, "ac", {}):
            self.assert_refused(STEPS, value)
            self.assert_refused(CIRCLE, value)

    def test_odd_values(self):
        for value in ODD_VALUES:
            self.assert_refused(CIRCLE, value)
            self.assert_untouched(done, CIRCLE, value)

    def test_by_name(self):
        self.assert_same(done(league=CIRCLE, turn=(0, 2)), STEPS)
        self.assert_raises(Refused((0, 1)), done, turn=(0, 1), league=STEPS)


class LedTest(Case):
    def test_none_one_and_two(self):
        for league in LEAGUES:
            self.assert_same(led(league, ()), league)
            for turn in open_rises(league) + open_falls(league):
                behind = turned(league, *turn)
                self.assert_same(led(league, (turn,)), behind, (league, turn))
                self.assert_same(led(league, (turn, turn)), league, (league, turn))
                for other in open_rises(behind)[:2] + open_falls(behind)[:2]:
                    self.assert_same(led(league, (turn, other)), turned(behind, *other), (league, turn, other))

    def test_a_hundred_and_more(self):
        self.assert_same(led(CIRCLE, ((0, 2),) * 99), STEPS)
        self.assert_same(led(CIRCLE, ((0, 2),) * 100), CIRCLE)
        for many in (101, 102, 4000):
            self.assert_raises(TooMany(100), led, CIRCLE, ((0, 2),) * many)

    def test_too_many_is_told_ahead_of_what_is_refused(self):
        self.assert_raises(TooMany(100), led, CIRCLE, (None,) * 101)
        self.assert_raises(TooMany(100), led, STEPS, ((0, 1),) * 101)
        self.assert_raises(Refused(None), led, CIRCLE, ((0, 2),) * 99 + (None,))
        self.assert_raises(Refused((0, 1)), led, CIRCLE, ((0, 2),) * 99 + ((0, 1),))

    def test_the_first_one_that_cannot_be_done_when_its_turn_comes(self):
        # In circle all three can be done; behind the first one only this one can.
        self.assert_raises(Refused((0, 1)), led, CIRCLE, ((0, 2), (0, 1)))
        self.assert_raises(Refused((1, 2)), led, CIRCLE, ((0, 2), (0, 2), (0, 1), (1, 2), (0, 1)))
        self.assert_raises(Refused((0, 1)), led, STEPS, ((0, 1), (0, 2)))
        # In steps the second one cannot be done yet; behind the first one it can.
        self.assert_same(led(STEPS, ((0, 2), (0, 1))), ((), (0, 2), (0,)))

    def test_odd_values_among_the_turns(self):
        for value in ODD_VALUES:
            for some in ((value,), ((0, 2), value), (value, None), ((0, 2), (0, 2), value, (0, 2))):
                error = self.assert_raises(Refused(value), led, CIRCLE, some)
                self.assertIs(error.turn, value)
            self.assert_untouched(led, CIRCLE, ((0, 2), value))

    def test_turns_in_another_form(self):
        for value in ((2, 0), [0, 2], (0, 2, 0), (False, 2)):
            self.assert_raises(Refused(value), led, CIRCLE, (value,))
            self.assert_raises(Refused(value), led, CIRCLE, ((0, 2), value, (0, 1)))

    def test_by_name(self):
        self.assert_same(led(league=CIRCLE, some=((0, 2),)), STEPS)
        self.assert_same(led(some=(), league=CIRCLE), CIRCLE)


class OpenTurnsTest(Case):
    def test_all_and_only_these_ascending(self):
        for league in LEAGUES:
            matches = pairs(len(league))
            rises = tuple(turn for turn in matches if kind_of(league, *turn) == "rise")
            falls = tuple(turn for turn in matches if kind_of(league, *turn) == "fall")
            self.assert_same(open_rises(league), rises, league)
            self.assert_same(open_falls(league), falls, league)
            self.assertEqual(list(rises + falls), sorted(rises) + sorted(falls))

    def test_rankings(self):
        for n in range(1, 9):
            self.assert_same(open_rises(ranked(range(n))), ())
            self.assert_same(open_falls(ranked(range(n))), tuple((a, a + 2) for a in range(n - 2)))

    def test_all_level(self):
        self.assert_same(open_rises(round_league(7)), tuple(pairs(7)))
        self.assert_same(open_falls(round_league(7)), ())

    def test_by_name(self):
        self.assert_same(open_rises(league=QUAD), ((0, 1), (2, 3)))
        self.assert_same(open_falls(league=STEPS), ((0, 2),))


class WhatHoldsTest(Case):
    def test_a_rise_is_a_fall_behind_it_and_the_other_way_round(self):
        for league in LEAGUES:
            for turn in open_rises(league):
                self.assert_same(turn_kind(done(league, turn), *turn), "fall", (league, turn))
            for turn in open_falls(league):
                self.assert_same(turn_kind(done(league, turn), *turn), "rise", (league, turn))

    def test_one_match_is_turned_and_nothing_else(self):
        for league in LEAGUES:
            for turn in open_rises(league) + open_falls(league):
                behind = done(league, turn)
                differing = [(a, b) for a, b in pairs(len(league)) if beat(league, a, b) != beat(behind, a, b)]
                self.assertEqual(differing, [turn])

    def test_wins_and_their_squares(self):
        for league in LEAGUES:
            squares = sum(one * one for one in wins(league))
            for turns, change in ((open_rises(league), 2), (open_falls(league), -2)):
                for turn in turns:
                    behind = wins(done(league, turn))
                    self.assertEqual(sum(behind), len(pairs(len(league))))
                    self.assertEqual(sum(one * one for one in behind), squares + change)

    def test_wins_behind_a_rise_and_a_fall(self):
        for league in LEAGUES:
            before = wins(league)
            for turn in open_rises(league) + open_falls(league):
                winner, loser = turn if beat(league, *turn) else turn[::-1]
                wanted = list(before)
                wanted[winner] -= 1
                wanted[loser] += 1
                self.assert_same(wins(done(league, turn)), tuple(wanted), (league, turn))

    def test_no_rise_exactly_in_rankings(self):
        for league in LEAGUES:
            self.assertEqual(order_of(league) is None, open_rises(league) != (), league)

    def test_never_one_alone(self):
        for league in LEAGUES:
            rises = open_rises(league)
            self.assertNotEqual(len(rises), 1, league)
            for side in range(len(league)):
                without = [turn for turn in rises if side not in turn]
                self.assertEqual(rises != (), without != [], (league, side))


class ConventionsTest(Case):
    def test_equal_calls_leave_what_they_are_handed(self):
        self.assert_untouched(turn_kind, QUAD, 3, 2)
        self.assert_untouched(turn_error, QUAD, [[2], {3: 1}])
        self.assert_untouched(done, QUAD, (2, 3))
        self.assert_untouched(done, QUAD, [2, [3]])
        self.assert_untouched(led, QUAD, ((2, 3), [0, [1]]))
        self.assert_untouched(open_rises, QUAD)
        self.assert_untouched(open_falls, QUAD)
