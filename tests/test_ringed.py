"""The most rings that a half can still have, and all numbers and signs of the leagues that go with it."""

from levelturns.halves import half_signs, most_error, most_ringed, opens, ring_range
from levelturns.errors import TooMany
from levelturns.leagues import league_error
from tests.checks import Case
from tests.half_samples import (
    FEW, FOUR, MANY, all_halves, goes_with, leagues_with, open_matches, opened, uneven_pairs,
)
from tests.judges import ring_number, seconds, sign_of, turned_over
from tests.samples import LARGE, ODD_VALUES, SMALL, all_leagues, league_numbered, pairs, ranked, round_league

MOST = [0, 0, 1, 2, 5, 8, 14, 20]
SOME = (3, ((0, 1),))
LATER = (4, ((0, 2), (0, 3), (1, 3)))
# Halves of which all leagues that go with them are soon told.
SOON = [half for half in MANY if len(open_matches(half)) <= 8]


def error_told(half, league):
    """Return what the document tells of a league of as many sides as half."""
    for a, b in half[1]:
        if b not in league[a]:
            return ("match", a, b)
    found = uneven_pairs(half, league)
    return ("more", *found[0]) if found else None


class MostRingedTest(Case):
    def check(self, half):
        league = most_ringed(half)
        self.assert_same(league_error(league), None, half)
        self.assertTrue(goes_with(league, half), half)
        return league

    def test_few_open_matches_against_all_leagues(self):
        for half in FEW + FOUR + SOON[::2]:
            most = max(ring_number(league) for league in leagues_with(half))
            self.assertEqual(ring_number(self.check(half)), most, half)

    def test_five_sides_with_nothing_told_or_little(self):
        leagues = [(league, ring_number(league)) for league in all_leagues(5)]
        for half in [(5, ())] + [half for half in MANY if half[0] == 5] + all_halves(5)[::700]:
            most = max(many for league, many in leagues if goes_with(league, half))
            self.assertEqual(ring_number(self.check(half)), most, half)

    def test_many_open_matches_by_the_rows_between_uneven_sides(self):
        for half in MANY:
            self.assertEqual(uneven_pairs(half, self.check(half)), [], half)

    def test_nothing_told_and_all_told(self):
        for n in range(1, 9):
            self.assertEqual(ring_number(self.check((n, ()))), MOST[n - 1])
        for league in SMALL + LARGE[::5]:
            self.assert_same(most_ringed(opened(league, [])), league)

    def test_a_side_that_lost_all_or_won_all(self):
        for n in range(2, 9):
            for won in (tuple((0, b) for b in range(1, n)), tuple((a, 0) for a in range(1, n))):
                self.assertEqual(ring_number(self.check((n, won))), MOST[n - 2])

    def test_in_a_short_time(self):
        for half in [(8, ())] + [half for half in MANY if half[0] == 8][::5]:
            self.assertLess(seconds(most_ringed, half), 1)

    def test_by_name(self):
        self.assert_same(most_ringed(half=SOME), ((1,), (2,), (0,)))


class MostErrorTest(Case):
    def test_every_league_of_few_sides(self):
        for half in FEW:
            for league in all_leagues(half[0]):
                self.assert_same(most_error(half, league), error_told(half, league), (half, league))

    def test_every_league_of_four_sides(self):
        for half in FOUR[::3]:
            for league in all_leagues(4):
                self.assert_same(most_error(half, league), error_told(half, league), (half, league))

    def test_leagues_of_many_sides_that_go_with_the_half_or_do_not(self):
        kinds = {}
        for half in MANY:
            n = half[0]
            best = most_ringed(half)
            for league in (
                best, ranked(range(n)), ranked(range(n)[::-1]), round_league(n), turned_over(best, (0, n - 1)),
                *(turned_over(best, match) for match in open_matches(half)[:3]),
            ):
                wanted = error_told(half, league)
                self.assert_same(most_error(half, league), wanted, (half, league))
                kinds[wanted and wanted[0]] = True
        self.assertEqual(set(kinds), {None, "match", "more"})

    def test_leagues_that_go_with_halves_of_many_sides(self):
        for half in SOON[::3]:
            for league in leagues_with(half)[::5]:
                self.assert_same(most_error(half, league), error_told(half, league), (half, league))

    def test_none_exactly_where_there_are_the_most_rings(self):
        for half in FEW + FOUR[::2] + SOON[::4]:
            leagues = leagues_with(half)
            most = max(ring_number(league) for league in leagues)
            for league in leagues:
                self.assertEqual(most_error(half, league) is None, ring_number(league) == most, (half, league))

    def test_the_first_match_that_went_the_other_way(self):
        half = (8, tuple(pairs(8)))
        for a, b in pairs(8):
            self.assert_same(most_error(half, turned_over(ranked(range(8)), (a, b))), ("match", a, b))
        half = (4, ((0, 1), (1, 2), (2, 0), (3, 1)))
        self.assert_same(most_error(half, ((2, 3), (0, 3), (1, 3), ())), ("match", 0, 1))
        self.assert_same(most_error(half, ((1, 2, 3), (2, 3), (3,), ())), ("match", 2, 0))
        self.assert_same(most_error(half, ((1, 3), (2, 3), (0, 3), ())), ("match", 3, 1))

    def test_the_least_pair_of_uneven_sides(self):
        for n in range(3, 9):
            self.assert_same(most_error((n, ()), ranked(range(n))), ("more", 0, 2))
            self.assert_same(most_error((n, ()), ranked(range(n)[::-1])), ("more", 2, 0))
        # From the side with the most wins to one with the fewest there are rows over others alone.
        half = (4, ((0, 3), (1, 2)))
        self.assert_same(most_error(half, ranked(range(4))), ("more", 0, 2))
        half = (4, ((0, 2), (0, 3), (1, 3)))
        self.assert_same(most_error(half, ranked(range(4))), ("more", 0, 2))
        self.assert_same(most_error((4, ((0, 1), (0, 2), (0, 3))), ranked(range(4))), ("more", 1, 3))

    def test_two_wins_more_are_wanted(self):
        half = (3, ((0, 2), (1, 2)))
        self.assert_same([most_error(half, league) for league in (ranked((0, 1, 2)), ranked((1, 0, 2)))], [None, None])
        self.assert_same(most_error((2, ()), ((1,), ())), None)

    def test_what_is_no_league_of_so_many_sides(self):
        for half in (SOME, LATER, (1, ()), (8, ()), (3, ((0, 1), (0, 2), (1, 2)))):
            n = half[0]
            for league in SMALL[::7] + LARGE[::9]:
                if len(league) != n:
                    self.assert_same(most_error(half, league), "form", (half, league))
        for value in (
            None, True, 0, "a:b b:c c:a", "", [], [(1,), (2,), (0,)], ((1,), (2,), [0]), ((1,), (2,), (False,)),
            ((True,), (2,), (0,)), ((1,), (2,), ()), ((1,), (2,), (0, 1)), ((2, 1), (2,), ()), {}, (), ((),) * 9,
            ((1,), (2,), (0,), ()),
        ):
            self.assert_same(most_error(SOME, value), "form", value)
            self.assert_same(most_error((3, ()), value), "form", value)

    def test_odd_values(self):
        for value in ODD_VALUES:
            for half in (SOME, (8, ()), (2, ((1, 0),))):
                self.assert_same(self.assert_untouched(most_error, half, value), ("returned", "form"), value)

    def test_in_a_short_time(self):
        for league in (ranked(range(8)), round_league(8), league_numbered(8, 987654)):
            self.assertLess(seconds(most_error, (8, ()), league), 1)

    def test_by_name(self):
        self.assert_same(most_error(half=SOME, value=((1, 2), (2,), ())), ("more", 0, 2))
        self.assert_same(most_error(value=None, half=SOME), "form")


class RingRangeTest(Case):
    def test_against_all_leagues(self):
        for half in FEW + FOUR + SOON[::2]:
            counts = [ring_number(league) for league in leagues_with(half)]
            self.assert_same(ring_range(half), (min(counts), max(counts)), half)

    def test_the_greatest_is_that_of_most_ringed(self):
        for half in FEW + FOUR + SOON:
            self.assertEqual(ring_range(half)[1], ring_number(most_ringed(half)), half)

    def test_by_name(self):
        self.assert_same(ring_range(half=SOME), (0, 1))


class HalfSignsTest(Case):
    def test_against_all_leagues(self):
        for half in FEW + FOUR + SOON[::2]:
            wanted = tuple(sorted({sign_of(league) for league in leagues_with(half)}))
            self.assert_same(half_signs(half), wanted, half)

    def test_each_sort(self):
        self.assert_same([half_signs((2, ())), half_signs((2, ((0, 1),))), half_signs((2, ((1, 0),)))],
                         [(0, 1), (0,), (1,)])

    def test_one_open_match(self):
        for league in SMALL + LARGE[::3]:
            for a, b in pairs(len(league)):
                winner, loser = (a, b) if b in league[a] else (b, a)
                alike = (len(league[winner]) - len(league[loser])) % 2 == 0
                self.assertEqual(len(half_signs(opened(league, [(a, b)]))) == 1, alike, (league, a, b))

    def test_by_name(self):
        self.assert_same(half_signs(half=SOME), (0, 1))


class OpenMatchesTest(Case):
    def test_eight_open_matches_in_a_short_time(self):
        halves = [half for half in MANY if len(opens(half)) == 8]
        self.assertEqual({half[0] for half in halves}, {5, 6, 7, 8})
        for half in halves:
            self.assertLess(seconds(ring_range, half), 1)
            self.assertLess(seconds(half_signs, half), 1)

    def test_one_open_match_too_many(self):
        for half in MANY:
            if len(open_matches(half)) > 8:
                self.assert_raises(TooMany(8), ring_range, half)
                self.assert_raises(TooMany(8), half_signs, half)

    def test_all_matches_open(self):
        for n in range(1, 5):
            self.assert_same(ring_range((n, ())), (0, MOST[n - 1]))
            self.assert_same(half_signs((n, ())), (0, 1) if n > 1 else (0,))
        for n in range(5, 9):
            self.assert_raises(TooMany(8), ring_range, (n, ()))
            self.assert_raises(TooMany(8), half_signs, half=(n, ()))


class ConventionsTest(Case):
    def test_equal_calls_leave_what_they_are_handed(self):
        for half in FEW + MANY[::9]:
            self.assert_untouched(most_ringed, half)
            self.assert_untouched(most_error, half, ranked(range(half[0])))
            self.assert_untouched(ring_range, half)
            self.assert_untouched(half_signs, half)
