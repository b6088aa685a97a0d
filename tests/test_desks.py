from levelturns import desks
from levelturns.desks import Desk, desk_behind
from levelturns.errors import (
    BadLeague, BadLog, LevelError, NothingToRedo, NothingToUndo, NoVersion, Refused, TooManyEdits, Unfit,
)
from levelturns.leagues import league_error
from levelturns.risings import row_count
from tests.checks import Case
from tests.judges import falls_in, kind_of, ring_number, rises_in, seconds, sign_of, turned_over
from tests.plain import PlainDesk, some_calls
from tests.samples import LEAGUES, ODD_VALUES, SMALL, all_leagues, pairs, ranked, round_league, some_leagues

CIRCLE = ((1,), (2,), (0,))
STEPS = ((1, 2), (2,), ())
FOUR = ((1, 3), (2,), (0, 3), (1,))
SPIN = round_league(5)
GREAT = round_league(8)
NO_SIDES = [None, True, False, -1, 8, 10 ** 399, "0", "a", "", (0,), (), [0], [], {}, {0: 1}, (0, 1)]


def state(desk):
    return (desk.league, desk.wins, desk.rings, desk.sign, desk.version, desk.log)


class DeskCase(Case):
    def check_call(self, desk, plain, call):
        """Check what a call returns or raises, and how the desk is behind it."""
        before, wanted = state(desk), plain.call(*call)
        if isinstance(wanted, LevelError):
            self.assert_raises(wanted, getattr(desk, call[0]), *call[1:])
            self.assert_same(state(desk), before, call)
        else:
            self.assert_same(getattr(desk, call[0])(*call[1:]), wanted, call)
        self.assert_same(state(desk), plain.state(), call)

    def both(self, league, calls=()):
        """Return a desk and a plain one behind these calls."""
        desk, plain = Desk(league), PlainDesk(league)
        for call in calls:
            self.check_call(desk, plain, call)
        return desk, plain


def forty_edits(league):
    """Return the calls of forty edits, to and fro."""
    turn = (rises_in(league) + falls_in(league))[0]
    return [("turn", *turn)] * 40


class NewDeskTest(DeskCase):
    def test_leagues(self):
        for league in LEAGUES:
            desk = Desk(league)
            wanted = (league, tuple(len(row) for row in league), ring_number(league), sign_of(league), 0, ())
            self.assert_same(state(desk), wanted)

    def test_what_is_no_league(self):
        for value in [*ODD_VALUES, ((1,), (0,)), ((), ()), ((True,), ()), [(1,), ()], ranked(range(9)), (), Desk(FOUR)]:
            self.assert_raises(BadLeague(league_error(value)), Desk, value)
        self.assert_raises(BadLeague("form"), Desk, None)
        self.assert_raises(BadLeague(("side", 1)), Desk, ((1,), (False,)))
        self.assert_raises(BadLeague(("match", 1, 2)), Desk, ((1, 2), (), ()))

    def test_properties_are_only_read(self):
        for name in ("league", "wins", "rings", "sign", "version", "log"):
            kept = vars(Desk)[name]
            self.assertIsInstance(kept, property)
            self.assertIsNone(kept.fset)

    def test_by_name(self):
        self.assert_same(Desk(value=FOUR).league, FOUR)
        self.assert_raises(BadLeague("form"), Desk, value=[])


class EditTest(DeskCase):
    def test_each_turn_of_each_league_of_few_sides(self):
        for league in SMALL + some_leagues(5) + some_leagues(8)[::9]:
            n = len(league)
            for a in range(-1, n + 1):
                for b in range(-1, n + 1):
                    self.both(league, [("turn", a, b), ("turn", b, a), ("undo",), ("redo",)])

    def test_what_is_no_side(self):
        for league in (((),), ((1,), ()), CIRCLE, GREAT):
            for value in NO_SIDES + ODD_VALUES[:20]:
                for a, b in ((value, 0), (0, value), (value, value), (value, None)):
                    self.both(league, [("turn", a, b)])

    def test_the_least_rise_and_the_least_fall(self):
        for league in LEAGUES:
            self.both(league, [("rise",), ("fall",), ("fall",), ("rise",), ("rise",)])

    def test_rises_till_a_ranking(self):
        for league in LEAGUES[::3]:
            desk, plain = self.both(league)
            for left in reversed(range(desk.rings)):
                self.check_call(desk, plain, ("rise",))
                self.assertEqual(desk.rings, left)
            self.check_call(desk, plain, ("rise",))
            self.assert_same((desk.is_ranking(), desk.left()), (True, 1))

    def test_mixed_rows_of_calls(self):
        for league in [((),), ((), (0,)), CIRCLE, STEPS, FOUR, SPIN, ranked(range(6)), round_league(7), GREAT]:
            for seed in range(12):
                desk, plain = self.both(league)
                for call in some_calls(len(league), seed, 60):
                    self.check_call(desk, plain, call)

    def test_errors_in_their_order(self):
        calls = forty_edits(SPIN)
        for wrong in (("turn", 0, 0), ("turn", 0, 5), ("turn", True, 2), ("turn", None, 0), ("turn", "a", "b")):
            self.both(SPIN, calls + [wrong])
        desk, plain = self.both(ranked(range(5)), forty_edits(ranked(range(5))))
        for call, wanted in (
            (("turn", 0, 9), Unfit()), (("turn", 1, 0), Refused((0, 1))), (("rise",), Unfit()),
            (("turn", 0, 2), TooManyEdits()), (("fall",), TooManyEdits()),
        ):
            self.assert_raises(wanted, getattr(desk, call[0]), *call[1:])
            self.check_call(desk, plain, call)
        # Behind forty edits, to and fro, the league is a ring of three again: nothing can fall.
        desk, plain = self.both(CIRCLE, forty_edits(CIRCLE))
        self.assert_raises(Unfit(), desk.fall)
        self.assert_raises(TooManyEdits(), desk.rise)
        self.check_call(desk, plain, ("fall",))

    def test_forty_edits_and_one_more(self):
        for league in (CIRCLE, FOUR, SPIN, GREAT):
            desk, plain = self.both(league, forty_edits(league))
            self.assertEqual(desk.version, 40)
            for call in (("rise",), ("turn", *desk.log[0]), ("redo",), ("undo",), ("rise",), ("fall",), ("rise",)):
                self.check_call(desk, plain, call)
            for _ in range(41):
                self.check_call(desk, plain, ("undo",))
            for _ in range(41):
                self.check_call(desk, plain, ("redo",))

    def test_a_call_that_raises_forgets_nothing(self):
        for wrong in (("turn", 0, 0), ("turn", 0, 1), ("turn", 9, 0), ("rise",)):
            desk, plain = self.both(ranked((0, 1, 2)), [("turn", 0, 2), ("undo",)])
            self.check_call(desk, plain, wrong)
            self.check_call(desk, plain, ("redo",))
        desk, plain = self.both(CIRCLE, forty_edits(CIRCLE) + [("rise",), ("undo",), ("undo",), ("fall",)])
        self.check_call(desk, plain, ("redo",))

    def test_an_edit_forgets_all_that_was_taken_back(self):
        calls = [("rise",), ("fall",), ("rise",), ("undo",), ("undo",), ("turn", 0, 2), ("redo",), ("undo",), ("redo",)]
        for league in (CIRCLE, FOUR, SPIN, GREAT):
            self.both(league, calls + [("redo",), ("undo",), ("undo",), ("undo",), ("undo",)])
            # Also the very turn that was taken back.
            turn = rises_in(league)[0]
            desk, _ = self.both(league, [("turn", *turn), ("rise",), ("undo",), ("undo",), ("turn", *turn)])
            self.assert_raises(NothingToRedo(), desk.redo)

    def test_nothing_to_undo_and_nothing_to_redo(self):
        for league in (((),), CIRCLE, GREAT):
            desk = Desk(league)
            self.assert_raises(NothingToUndo(), desk.undo)
            self.assert_raises(NothingToRedo(), desk.redo)

    def test_by_name(self):
        desk = Desk(STEPS)
        self.assert_same(desk.turn(a=2, b=0), 1)
        self.assert_same(desk.turn(b=1, a=0), 2)
        self.assert_raises(Refused((0, 2)), desk.turn, b=2, a=0)


class LookTest(DeskCase):
    def check(self, desk, plain):
        for version in range(desk.version + 1):
            self.assert_same(desk.at(version), plain.leagues[version])
        for version in [desk.version + 1, desk.version + 2, 41, -1, -2, True, False, None, "0", "", (0,), (), [0], {}]:
            error = self.assert_raises(NoVersion(version), desk.at, version)
            self.assertIs(error.given, version)
        self.assert_same(desk.is_ranking(), not rises_in(desk.league))
        self.assert_same(desk.left(), row_count(desk.league))

    def test_behind_mixed_rows_of_calls(self):
        for league in (((),), ((1,), ()), CIRCLE, FOUR, SPIN, GREAT):
            for seed in range(4):
                desk, plain = self.both(league)
                for call in some_calls(len(league), seed + 50, 25):
                    self.check_call(desk, plain, call)
                    self.check(desk, plain)

    def test_each_league(self):
        for league in LEAGUES:
            self.check(Desk(league), PlainDesk(league))

    def test_versions_that_were_taken_back_are_none(self):
        desk, _ = self.both(CIRCLE, [("rise",), ("fall",), ("undo",)])
        self.assert_same([desk.at(0), desk.at(1)], [CIRCLE, turned_over(CIRCLE, (0, 1))])
        self.assert_raises(NoVersion(2), desk.at, 2)

    def test_odd_values(self):
        desk, _ = self.both(CIRCLE, [("rise",), ("fall",)])
        for value in ODD_VALUES:
            if type(value) is not int or value not in (0, 1, 2):
                self.assert_raises(NoVersion(value), desk.at, value)
                self.assert_untouched(desk.at, value)

    def test_looks_change_nothing(self):
        desk, plain = self.both(SPIN, [("rise",), ("rise",), ("undo",)])
        for _ in range(2):
            for look in (desk.left, desk.is_ranking, desk.copy):
                look()
                self.assert_same(state(desk), plain.state())
        self.check_call(desk, plain, ("redo",))

    def test_by_name(self):
        self.assert_same(Desk(CIRCLE).at(version=0), CIRCLE)
        self.assert_raises(NoVersion(1), Desk(CIRCLE).at, version=1)


class CopyTest(DeskCase):
    def test_all_that_a_desk_keeps(self):
        for league in (((),), CIRCLE, FOUR, GREAT):
            for seed in range(4):
                desk, plain = self.both(league, some_calls(len(league), seed + 9, 30))
                twin = desk.copy()
                self.assertIs(type(twin), Desk)
                self.assert_same(state(twin), state(desk))
                self.assertEqual([twin.at(k) for k in range(twin.version + 1)], plain.leagues[:plain.many + 1])
                for _ in range(len(plain.turns) - plain.many + 1):
                    self.check_call(twin, plain, ("redo",))
                for _ in range(len(plain.turns) + 1):
                    self.check_call(twin, plain, ("undo",))

    def test_neither_changes_with_the_other(self):
        for call in (("undo",), ("redo",), ("rise",), ("turn", 0, 1), ("fall",)):
            for first in (True, False):
                desk, plain = self.both(SPIN, [("rise",), ("rise",), ("rise",), ("undo",)])
                twin = desk.copy()
                changed, kept = (desk, twin) if first else (twin, desk)
                before, wanted = state(kept), plain.state()
                try:
                    getattr(changed, call[0])(*call[1:])
                except LevelError:
                    pass
                self.assert_same(state(kept), before)
                self.assert_same(state(kept), wanted)
                self.check_call(kept, plain, ("redo",))
                self.check_call(kept, plain, ("undo",))


class EqualTest(DeskCase):
    def assert_equal_desks(self, one, other, wanted):
        self.assert_same([one == other, other == one, one != other, other != one], [wanted, wanted, not wanted, not wanted])

    def test_all_pairs_of_leagues(self):
        for n in range(1, 4):
            for one in all_leagues(n):
                for other in SMALL[:20]:
                    self.assert_equal_desks(Desk(one), Desk(other), one == other)

    def test_the_present_league_alone_counts(self):
        one, _ = self.both(CIRCLE, [("turn", 0, 2)])
        other, _ = self.both(STEPS)
        self.assert_equal_desks(one, other, True)
        self.assert_equal_desks(one, Desk(CIRCLE), False)
        one.undo()
        self.assert_equal_desks(one, Desk(CIRCLE), True)
        self.assert_equal_desks(one, other, False)
        self.assert_equal_desks(one, one, True)

    def test_nothing_else(self):
        for value in [*ODD_VALUES, CIRCLE, BadLeague("form"), desks, Desk]:
            self.assert_equal_desks(Desk(CIRCLE), value, False)


class DeskBehindTest(DeskCase):
    def test_right_logs(self):
        for league in (((),), ((), (0,)), CIRCLE, STEPS, FOUR, SPIN, GREAT):
            for seed in range(6):
                desk, plain = self.both(league, some_calls(len(league), seed + 30, 50))
                twin = desk_behind(league, desk.log)
                self.assertIs(type(twin), Desk)
                self.assert_same(state(twin), state(desk))
                self.assertEqual([twin.at(k) for k in range(twin.version + 1)], plain.leagues[:plain.many + 1])
                self.assertEqual(twin, desk)
                self.assert_raises(NothingToRedo(), twin.redo)
                for _ in range(twin.version):
                    twin.undo()
                self.assert_same(twin.league, league)

    def test_no_turns(self):
        self.assert_same(state(desk_behind(GREAT, ())), state(Desk(GREAT)))

    def test_what_is_no_league_comes_first(self):
        for value in [*ODD_VALUES, ((1,), (0,)), (), Desk(FOUR)]:
            for log in ((), None, (None,), [(0, 1)]):
                self.assert_raises(BadLeague(league_error(value)), desk_behind, value, log)

    def test_what_is_no_tuple(self):
        for log in (None, True, 0, "", "ab", [], [(0, 2)], {}, {(0, 2): True}, Desk(FOUR)):
            self.assert_raises(BadLog(0), desk_behind, FOUR, log)

    def test_each_fault_at_each_place(self):
        right = ((0, 2), (1, 2), (0, 3), (0, 3))
        self.assert_same(desk_behind(FOUR, right).log, right)
        for place in range(5):
            for item in (None, True, 0, "ab", "", (), (0,), [0, 2], (2, 0), (0, 0), (0, 4), (-1, 2), (True, 2), (0, True),
                         (0, 1, 2), ((0, 2),), {}, {0: 2}, (0, None), (0, [2]), (10 ** 399, 0), (3, 0)):
                log = (*right[:place], item, *right[place:])
                self.assert_raises(BadLog(place), desk_behind, FOUR, log)
                self.assert_raises(BadLog(place), desk_behind, FOUR, (*log, None))

    def test_turns_that_cannot_be_done_when_their_turn_comes(self):
        for league in (CIRCLE, STEPS, FOUR, SPIN):
            for first in pairs(len(league)):
                for second in pairs(len(league)):
                    plain = PlainDesk(league)
                    wrong = [k for k, turn in enumerate((first, second)) if isinstance(plain.call("turn", *turn), Refused)]
                    if wrong:
                        self.assert_raises(BadLog(wrong[0]), desk_behind, league, (first, second))
                    else:
                        self.assert_same(desk_behind(league, (first, second)).league, plain.leagues[-1])

    def test_forty_turns_and_one_more(self):
        for many in (38, 39, 40):
            self.assert_same(desk_behind(CIRCLE, ((0, 2),) * many).version, many)
        for log in (((0, 2),) * 41, ((0, 2),) * 4000, ((0, 2),) * 40 + (None,), ((0, 2),) * 40 + ((2, 0), (0, 2))):
            self.assert_raises(BadLog(40), desk_behind, CIRCLE, log)
        self.assert_raises(BadLog(39), desk_behind, CIRCLE, ((0, 2),) * 39 + (None,) * 2)

    def test_odd_values(self):
        for value in ODD_VALUES:
            self.assert_raises(BadLog(0), desk_behind, CIRCLE, value)
            self.assert_raises(BadLog(1), desk_behind, CIRCLE, ((0, 2), value))
            self.assert_untouched(desk_behind, CIRCLE, value)

    def test_by_name(self):
        self.assert_same(desk_behind(value=CIRCLE, log=((0, 2),)).league, STEPS)
        self.assert_raises(BadLog(1), desk_behind, log=((0, 2), (0, 1)), value=CIRCLE)


class WhatHoldsTest(DeskCase):
    def test_rings_and_signs_along_mixed_rows(self):
        for league in (FOUR, SPIN, GREAT):
            desk, first = Desk(league), sign_of(league)
            for call in some_calls(len(league), 5, 80):
                rings, present = desk.rings, desk.league
                try:
                    getattr(desk, call[0])(*call[1:])
                except LevelError:
                    continue
                changed = [turn for turn in pairs(len(league)) if turned_over(present, turn) == desk.league]
                kind = kind_of(present, *changed[0])
                self.assertEqual(desk.rings - rings, {"rise": -1, "fall": 1}[kind])
                self.assertEqual(desk.sign, first)


class ConventionsTest(DeskCase):
    def test_what_is_handed_in_stays_as_it_is(self):
        log = ((0, 2), (0, 2), [0, {"a": [1]}])
        self.assert_untouched(desk_behind, CIRCLE, log)
        self.assert_untouched(Desk, [[1], {"a": ()}])
        desk = Desk(CIRCLE)
        self.assert_untouched(desk.turn, [0], {"b": [1]})

    def test_what_was_returned_stays_as_it_is(self):
        desk, _ = self.both(SPIN, [("rise",), ("rise",)])
        kept = [desk.log, desk.league, desk.wins, desk.at(1)]
        wanted = [tuple(one) for one in kept]
        for call in (("undo",), ("undo",), ("rise",), ("fall",), ("turn", 0, 1)):
            getattr(desk, call[0])(*call[1:])
        self.assert_same(kept, wanted)

    def test_two_desks_know_nothing_of_each_other(self):
        one, other = Desk(CIRCLE), Desk(CIRCLE)
        one.rise()
        self.assert_same((other.version, other.league), (0, CIRCLE))
        self.assert_raises(NothingToUndo(), other.undo)

    def test_in_a_short_time(self):
        desk = desk_behind(GREAT, ((0, 1),) * 40)
        self.assertLess(seconds(desk.left), 1)
        self.assertLess(seconds(desk_behind, GREAT, ((0, 1),) * 40), 1)
        for look in (desk.copy, desk.is_ranking, lambda: state(desk)):
            self.assertLess(seconds(look), 1)
