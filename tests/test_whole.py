"""One league through all parts of the program, which all say one thing of it."""

from levelturns.answers import answered
from levelturns.books import book_error
from levelturns.booktexts import book_text, read_book
from levelturns.desks import Desk, desk_behind
from levelturns.errors import TooMany
from levelturns.halves import filled, half_error, half_signs, most_error, most_ringed, opens, ring_range
from levelturns.joinpapers import paper, paper_error
from levelturns.kept import covers, kept_row
from levelturns.leagues import contrary, league_error, turned, wins
from levelturns.leaguetexts import league_text, read_league
from levelturns.lows import is_low, low_row
from levelturns.nearest import differing, direct_way, distance, nearest_way
from levelturns.rankings import order_error, order_of, ranking
from levelturns.reached import cheapest, ends, row_to, sure
from levelturns.rings import ring_change, ring_count, rings, rings_with
from levelturns.risings import next_counts, row_at, row_count, row_number
from levelturns.shells import Shell
from levelturns.signs import joined, order_sign, sign, way
from levelturns.tables import (
    count_with, league_with, most_rings, rises_of, table_error, table_rings, table_rows, with_rings,
)
from levelturns.turns import done, led, open_falls, open_rises, turn_error, turn_kind
from tests.checks import Case
from tests.samples import SMALL, pairs, round_league, some_leagues

LETTERS = "abcdefgh"
LEAGUES = SMALL[::3] + [league for n in range(5, 9) for league in [*some_leagues(n)[::6], round_league(n)]]
FEW = [league for league in LEAGUES if len(league) <= 5]


def letters(row):
    return "".join(LETTERS[side] for side in row)


def listed(rows):
    return " ".join(letters(row) for row in rows) or "none"


def end_of(league):
    """Return the order to which the least rises lead."""
    return order_of(led(league, row_at(league, 0)))


class WholeTest(Case):
    def test_league_text_and_wins(self):
        for league in LEAGUES:
            self.assert_same(league_error(league), None)
            self.assert_same(read_league(league_text(league)), league)
            self.assert_same(wins(contrary(league)), tuple(len(league) - 1 - many for many in wins(league)))

    def test_rings_by_all_who_count_them(self):
        for league in LEAGUES:
            many = ring_count(league)
            self.assertEqual(len(rings(league)), many)
            self.assertEqual(sum(rings_with(league, side) for side in range(len(league))), 3 * many)
            self.assertEqual(table_rings(wins(league)), many)
            self.assertEqual(len(row_at(league, row_count(league) - 1)), many)
            self.assertEqual(len(kept_row(league, 0)), many)
            self.assertEqual(Desk(league).rings, many)
            self.assertEqual(ring_count(with_rings(len(league), many)), many)
            told = (len(league), tuple((a, b) for a, row in enumerate(league) for b in row))
            self.assert_same(ring_range(told), (many, many))
            for a, b in pairs(len(league)):
                self.assertEqual(ring_count(turned(league, a, b)), many + ring_change(league, a, b))

    def test_wins_as_a_table(self):
        for league in LEAGUES:
            table = wins(league)
            self.assert_same(table_error(table), None)
            twin = league_with(table)
            self.assertEqual(row_count(twin), row_count(league))
            self.assertEqual(table_rows(table), row_count(league))
            self.assertEqual(joined(twin, league), len(differing(twin, league)) % 2 == 0, league)
            self.assertEqual(count_with(table) == 1, order_of(league) is not None)
            self.assertEqual({tuple(sorted(wins(done(league, turn)))) for turn in open_rises(league)}, set(rises_of(table)))

    def test_rows_of_rises_and_the_rankings_to_which_they_lead(self):
        for league in LEAGUES:
            many = row_count(league)
            self.assertEqual(sum(number for _, number in next_counts(league)) or 1, many)
            for number in {0, many // 3, many - 1}:
                row = row_at(league, number)
                self.assert_same(row_number(league, row), number)
                order = order_of(led(league, row))
                self.assert_same(order_error(len(league), order), None)
                self.assertEqual(order_sign(order), sign(league))
                self.assertTrue(joined(league, ranking(order)))
                if len(league) <= 5:
                    self.assertIn(order, ends(league))

    def test_ways_and_papers(self):
        for league in LEAGUES:
            for other in (ranking(end_of(league)), contrary(league), ranking(tuple(range(len(league))))):
                told = paper(league, other)
                self.assert_same(paper_error(league, other, told), None)
                self.assertEqual(told[0] == "way", joined(league, other))
                self.assertEqual(sign(league) == sign(other), joined(league, other))
                if joined(league, other):
                    self.assert_same(led(league, way(league, other)), other)
                    self.assert_same(led(other, way(league, other)[::-1]), league)
                else:
                    self.assertEqual(told[1], len(differing(league, other)))

    def test_orders_that_are_reached(self):
        for league in FEW:
            for order in ends(league):
                row = row_to(league, order)
                self.assert_same(led(league, row), ranking(order))
                self.assertGreaterEqual(row_number(league, row), 0)
                self.assertTrue(set(sure(league)) <= set(sure(ranking(order))))
                if len(league) <= 4:
                    self.assertEqual(distance(league, ranking(order)), len(row))
                    self.assertEqual(len(nearest_way(league, ranking(order))), len(row))
            for a, b in sure(league):
                self.assertTrue(covers(league, a, b))
            self.assert_same(cheapest(league, (1,) * len(pairs(len(league)))), (ring_count(league), row_at(league, 0)))

    def test_falls_and_rises(self):
        for league in LEAGUES:
            row = low_row(league)
            low = led(league, row)
            self.assertTrue(is_low(low))
            self.assertEqual(open_falls(low), ())
            self.assertEqual(ring_count(low), ring_count(league) + len(row))
            self.assertTrue(joined(low, league))
            self.assert_same(led(low, row[::-1]), league)
            if len(set(row)) == len(row) <= 8:
                self.assert_same(led(league, direct_way(league, low)), low)

    def test_halves(self):
        for league in LEAGUES:
            n = len(league)
            for free in (pairs(n)[:3], pairs(n)[-8:], pairs(n)):
                won = [(a, b) if b in league[a] else (b, a) for a, b in pairs(n) if (a, b) not in free]
                half = (n, tuple(sorted(won)))
                self.assert_same(half_error(half), None)
                self.assert_same(opens(half), tuple(free))
                self.assert_same(filled(half, tuple(a if b in league[a] else b for a, b in free)), league)
                best = most_ringed(half)
                self.assert_same(most_error(half, best), None)
                self.assertLessEqual(ring_count(league), ring_count(best))
                self.assertEqual(most_error(half, league) is None, ring_count(league) == ring_count(best))
                if len(free) <= 8:
                    self.assertIn(sign(league), half_signs(half))
                    self.assertEqual(ring_range(half)[1], ring_count(best))
                else:
                    self.assertEqual(ring_count(best), most_rings(n))
                    self.assert_raises(TooMany(8), half_signs, half)

    def answers_wanted(self, league):
        """Return the answers to the questions of a book, as the parts tell them."""
        order, many = end_of(league), len(league)
        found = [" ".join(str(one) for one in wins(league)), str(ring_count(league)), str(sign(league)),
                 str(row_count(league)), listed(low_row(league)), listed(sorted(open_rises(league) + open_falls(league))),
                 "yes", str(len(differing(league, ranking(order))))]
        reached = [listed(ends(league)), listed(sure(league)), listed(row_to(league, order))] if many <= 5 else []
        far = [str(distance(league, ranking(order)))] if many <= 4 else ["error TooMany"]
        return tuple(found + (reached or ["error TooMany"] * 3) + far)

    def test_answers(self):
        words = ("wins", "rings", "sign", "rows", "low", "open")
        for league in LEAGUES:
            order = end_of(league)
            asks = tuple((word, "one") for word in words) + (
                ("joined", "one", "goal"), ("differ", "goal", "one"), ("ends", "one"), ("sure", "one"),
                ("row", "one", "end"), ("far", "one", "goal"),
            )
            book = ((("one", league), ("goal", ranking(order))), (("end", order),), asks)
            self.assert_same(book_error(book), None)
            self.assert_same(read_book(book_text(book)), book)
            self.assert_same(answered(book), self.answers_wanted(league), league)

    def test_desk(self):
        for league in LEAGUES:
            desk = Desk(league)
            self.assert_same((desk.league, desk.wins, desk.sign), (league, wins(league), sign(league)))
            self.assert_same(desk.left(), row_count(league))
            for _ in range(ring_count(league)):
                desk.rise()
            self.assert_same(desk.log, row_at(league, 0))
            self.assert_same((desk.is_ranking(), desk.left(), desk.league), (True, 1, ranking(end_of(league))))
            self.assertTrue(joined(desk.at(0), desk.league))
            desk = Desk(league)
            for turn in low_row(league):
                self.assertEqual(turn_kind(desk.league, *turn), "fall")
                desk.fall()
            self.assert_same(desk.log, low_row(league))
            self.assertEqual(desk, desk_behind(league, low_row(league)))
            for turn in pairs(len(league)):
                if turn_error(league, turn) is None:
                    self.assert_same(desk_behind(league, (turn,)).league, done(league, turn))

    def test_shell(self):
        for league in LEAGUES:
            shell, order = Shell(), end_of(league)
            self.assert_same(shell.say("league " + league_text(league)), "version 0")
            goal = league_text(ranking(order))
            found = [shell.say(line) for line in ("wins", "rings", "sign", "rows", "open", "joined " + goal, "ends",
                                                  "far " + goal)]
            wanted = self.answers_wanted(league)
            self.assert_same(found, [*wanted[:4], wanted[5], wanted[6], wanted[8], wanted[11]], league)
            for version, turn in enumerate(row_at(league, 0), 1):
                self.assert_same(shell.say("turn " + " ".join(letters(turn))), "version " + str(version))
            self.assert_same([shell.say("order"), shell.say("show"), shell.say("rise")], [letters(order), goal, "error Unfit"])
            for _ in range(ring_count(league)):
                shell.say("undo")
            self.assert_same(shell.say("show"), league_text(league))
