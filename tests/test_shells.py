from levelturns.shells import Shell
from tests.checks import Case
from tests.judges import seconds
from tests.plain import LETTERS, PlainShell, league_letters, some_calls
from tests.samples import ODD_VALUES, SMALL, all_leagues, ranked, round_league, some_leagues

DEEDS = ["rise", "fall", "undo", "redo"]
LOOKS = ["show", "wins", "rings", "sign", "rows", "open", "order", "ends"]
TURNS = ["turn " + one + " " + other for one in LETTERS for other in LETTERS]
CIRCLE, BACK, STEPS = "a:b b:c c:a", "a:c b:a c:b", "a:bc b:c c:"
QUAD = "a:bc b:cd c:d d:a"
# Texts of no league.
NO_TEXTS = ["", " ", "\n", "a", "a:b b:a", "a:b b: ", " a:b b:", "a:b  b:", "a:b b:\n", "\na:b b:", "a:cb b:c c:", "a:bc b:c",
            "a:bc b:c c:d", "A:B B:", "a:b\nb:", "undo", "a:b b:c c:a a:b b:c c:a", "1 2", "x" * 20000, "a: " * 6000]
# Lines that are near to those told, and none of them.
NEAR = [
    "", " ", "\n", "\t", "sing", "what", "help", "league", "joined", "far", "turn", "turn ", "turn  ", "turn a", "turn a ",
    "turn  a", "turn ab", "turn a  b", "turn  a b", " turn a b", "turn a b ", "turn a b c", "turn a i", "turn i a",
    "turn A B", "turn a B", "turn a,b", "turn a-b", "turn 0 1", "turn a 1", "turn a\nb", "turn\na b", "turn a b\n",
    "\nturn a b", "Turn a b", "TURN a b", "turna b", "turn aa b", "turn a bb", "turn a:b", "turn a \n", "turn   ",
    "leagues a:b b:", "League a:b b:", "league\na:b b:", "league:a:b b:", " league a:b b:", "leaguea:b b:", "\tleague a:",
    "Joined a:b b:", "joined\na:b b:", " joined a:b b:", "joins a:b b:", "Far a:b b:", "far\na:b b:", " far a:b b:",
    "farther a:b b:", "rise fall", "rise\nfall", "show wins", "show a", "wins cup", "undo 1", "redo redo", "ends ends",
    "version", "log", "left", "copy", "at 0", "low", "sure", "differ", "row", "ask", "new", "None", "7",
    *[changed for word in DEEDS + LOOKS for changed in (
        word + " ", " " + word, word + "\n", "\n" + word, word.upper(), word.capitalize(), word + "s", word[:-1],
        word + "  ", word + "\t", word + " a b", word + " " + word, word + " ", word[0] + " " + word[1:],
    ) if changed not in DEEDS + LOOKS],
]


class ShellCase(Case):
    def both(self, *lines):
        """Return a shell and a plain one behind these lines."""
        shell, plain = Shell(), PlainShell()
        self.check(shell, plain, lines)
        return shell, plain

    def check(self, shell, plain, lines):
        for line in lines:
            self.assert_same(shell.say(line), plain.say(line), line)

    def check_looks(self, shell, plain):
        """Check that all looks are answered rightly, twice alike, and so that they change nothing."""
        self.check(shell, plain, LOOKS)
        self.check(shell, plain, LOOKS)


class NoDeskTest(ShellCase):
    def test_lines_that_are_told(self):
        for line in DEEDS + LOOKS + TURNS:
            self.assert_same(Shell().say(line), "no league", line)
        for text in [*NO_TEXTS, CIRCLE, QUAD]:
            for word in ("joined ", "far "):
                self.assert_same(Shell().say(word + text), "no league", word + text)

    def test_lines_that_are_not(self):
        for line in NEAR:
            self.assert_same(Shell().say(line), "what", line)

    def test_a_league_is_set(self):
        for league in [*SMALL, *some_leagues(8)[::5], round_league(6)]:
            shell, plain = self.both("league " + league_letters(league))
            self.check_looks(shell, plain)

    def test_texts_of_no_league(self):
        shell = Shell()
        for text in NO_TEXTS:
            self.assert_same(shell.say("league " + text), "error BadText", text)
            self.assert_same(shell.say("show"), "no league", text)

    def test_the_order_of_answers(self):
        shell = Shell()
        self.assert_same([shell.say(line) for line in (None, "far", "turn a i", "far ", "turn a a", "league", "league ")],
                         ["what", "what", "what", "no league", "no league", "what", "error BadText"])


class LinesTest(ShellCase):
    def test_lines_that_are_not_told(self):
        shell, plain = self.both("league " + QUAD, "rise", "rise", "undo")
        for line in NEAR:
            self.assert_same(shell.say(line), "what", line)
        self.check(shell, plain, ["redo", "show", "undo", "undo", "undo"])

    def test_values_of_all_kinds(self):
        for ahead in ([], ["league " + QUAD, "rise", "rise", "undo"]):
            shell, plain = self.both(*ahead)
            for value in [*ODD_VALUES, ("show",), ["show"], {"show": 1}, shell, Shell, b"show"]:
                self.assert_same(shell.say(value), "what", value)
            self.check(shell, plain, ["redo", "show", *LOOKS])

    def test_each_sign_ahead_of_a_line_or_behind_it(self):
        shell, _ = self.both("league " + QUAD)
        for number in [10, *range(32, 127)]:
            for line in [*DEEDS, *LOOKS, "turn a b"]:
                self.assert_same(shell.say(line + chr(number)), "what", line)
                self.assert_same(shell.say(chr(number) + line), "what", line)

    def test_every_two_letters(self):
        for league in (round_league(8), ranked(range(8)), ranked(range(4)), round_league(3), ((),)):
            for line in TURNS:
                shell, plain = self.both("league " + league_letters(league), line, "show")
                self.check(shell, plain, ["undo", "show"])

    def test_letters_beyond(self):
        shell, _ = self.both("league " + QUAD)
        for letter in [chr(number) for number in (10, *range(32, 127)) if chr(number) not in LETTERS]:
            self.assert_same(shell.say("turn a " + letter), "what", letter)
            self.assert_same(shell.say("turn " + letter + " a"), "what", letter)
        for letter in "efgh":
            self.assert_same(shell.say("turn a " + letter), "error Unfit", letter)
            self.assert_same(shell.say("turn " + letter + " a"), "error Unfit", letter)


class DeedsTest(ShellCase):
    def test_mixed_rows_of_lines(self):
        for n in range(1, 9):
            for league in (round_league(n), ranked(range(n)), ranked(range(n)[::-1])):
                for seed in range(3):
                    shell, plain = self.both("league " + league_letters(league))
                    for name, *sides in some_calls(n, seed + 70, 25):
                        self.check(shell, plain, [" ".join([name, *(LETTERS[side] for side in sides)]), "show", "open"])
                    self.check_looks(shell, plain)

    def test_another_league_stands_in_the_place_of_the_one_that_there_was(self):
        shell, plain = self.both("league " + QUAD, "rise", "rise", "undo", "league " + CIRCLE)
        self.check(shell, plain, ["undo", "redo", "show", "rise", "league " + CIRCLE, "undo", "redo", "show"])
        self.check(shell, plain, ["rise", "league a:", "undo", "rise", "redo", *LOOKS])

    def test_an_error_changes_nothing(self):
        shell, plain = self.both("league " + QUAD, "rise", "rise", "undo")
        for line in (
            *["league " + text for text in NO_TEXTS], "turn a a", "turn a h", "turn b c", "far " + STEPS, "far ",
            "joined " + STEPS, "joined ", "far a:bcd b:cd c:d d:a", "fall of man", "undoing",
        ):
            self.check(shell, plain, [line, "show"])
        self.check(shell, plain, ["redo", "redo", "undo", "undo", "undo", "show"])

    def test_forty_edits_and_one_more(self):
        shell, plain = self.both("league " + CIRCLE, *["turn a b"] * 40)
        self.check(shell, plain, ["turn a b", "rise", "fall", "turn a a", "turn a d", "redo", "undo", "fall", "redo", "rise"])
        shell, plain = self.both("league " + STEPS, *["turn c a"] * 40)
        self.check(shell, plain, ["turn a b", "rise", "fall", "show", *["undo"] * 41, *["redo"] * 41])

    def test_errors(self):
        shell, _ = self.both("league " + STEPS)
        self.assert_same(
            [shell.say(line) for line in ("rise", "turn a b", "turn a d", "turn b b", "undo", "redo", "league", "league x")],
            ["error Unfit", "error Refused", "error Unfit", "error Unfit", "error NothingToUndo", "error NothingToRedo",
             "what", "error BadText"],
        )
        shell, _ = self.both("league " + CIRCLE, *["turn b c"] * 40)
        self.assert_same([shell.say(line) for line in ("rise", "turn a b", "fall", "redo")],
                         ["error TooManyEdits", "error TooManyEdits", "error Unfit", "error NothingToRedo"])


class LooksTest(ShellCase):
    def test_each_league_of_few_sides(self):
        for league in SMALL:
            shell, plain = self.both("league " + league_letters(league))
            self.check(shell, plain, LOOKS)

    def test_some_leagues_of_many_sides(self):
        for n in range(5, 9):
            for league in (round_league(n), *some_leagues(n)[::9]):
                shell, plain = self.both("league " + league_letters(league))
                self.check_looks(shell, plain)

    def test_each_pair_of_leagues(self):
        for n, step in ((1, 1), (2, 1), (3, 1), (4, 9)):
            for league in all_leagues(n)[::step]:
                shell, plain = self.both("league " + league_letters(league))
                for other in all_leagues(n)[::2]:
                    text = league_letters(other)
                    self.check(shell, plain, ["joined " + text, "far " + text])

    def test_leagues_of_many_sides_beside_one_another(self):
        for n in range(5, 9):
            shell, plain = self.both("league " + league_letters(round_league(n)))
            for other in some_leagues(n)[::9]:
                self.check(shell, plain, ["joined " + league_letters(other), "far " + league_letters(other)])

    def test_texts_of_no_league(self):
        for text in (CIRCLE, league_letters(round_league(8))):
            shell, _ = self.both("league " + text)
            for wrong in NO_TEXTS:
                self.assert_same(shell.say("joined " + wrong), "error BadText", wrong)
                self.assert_same(shell.say("far " + wrong), "error BadText", wrong)

    def test_unlike_numbers_of_sides(self):
        for n in range(1, 9):
            shell, _ = self.both("league " + league_letters(ranked(range(n))))
            for k in range(1, 9):
                text = league_letters(ranked(range(k)))
                joined = "yes" if n == k else "error Unfit"
                far = "error Unfit" if n != k else "0" if n < 5 else "error TooMany"
                self.assert_same([shell.say("joined " + text), shell.say("far " + text)], [joined, far])

    def test_leagues_that_are_not_joined(self):
        shell, _ = self.both("league " + CIRCLE)
        self.assert_same([shell.say("joined " + BACK), shell.say("far " + BACK)], ["no", "error Unfit"])
        self.assert_same([shell.say("joined " + STEPS), shell.say("far " + STEPS)], ["yes", "1"])

    def test_the_league_as_it_is_then(self):
        shell, plain = self.both("league " + QUAD)
        for line in ("rise", "rise", "undo", "fall", "turn a c", "redo", "undo", "undo"):
            self.check(shell, plain, [line])
            self.check_looks(shell, plain)
            self.check(shell, plain, ["joined a:bcd b:cd c:d d:", "far a:bcd b:cd c: d:c", "far " + QUAD])


class ShellsTest(ShellCase):
    def test_two_shells_know_nothing_of_each_other(self):
        (one, plain_one), (other, plain_other) = self.both(), self.both()
        self.check(one, plain_one, ["league " + QUAD])
        self.check(other, plain_other, ["show", "league " + CIRCLE])
        for line in ("rise", "show", "undo", "rise", "rise", "undo", "open", "redo", "redo", "league " + STEPS, "fall", "rows"):
            self.check(one, plain_one, [line])
            self.check(other, plain_other, ["show", "undo" if line == "rise" else line, "wins"])

    def test_say_is_the_only_method(self):
        self.assertEqual([name for name in vars(Shell) if not name.startswith("_")], ["say"])

    def test_in_a_short_time(self):
        shell = Shell()
        shell.say("league " + league_letters(round_league(8)))
        for line in (*LOOKS, *DEEDS, "joined " + league_letters(ranked(range(8))), "league " + "a" * 20000):
            self.assertLess(seconds(shell.say, line), 1)
        shell.say("league " + league_letters(round_league(5)))
        self.assertLess(seconds(shell.say, "ends"), 1)
        shell.say("league a:bcd b:cd c:d d:")
        self.assertLess(seconds(shell.say, "far a: b:a c:ab d:abc"), 1)

    def test_by_name(self):
        shell = Shell()
        self.assert_same([shell.say(line="show"), shell.say(line="league a:"), shell.say(line=None)],
                         ["no league", "version 0", "what"])


class ConventionsTest(ShellCase):
    def test_what_is_handed_in_stays_as_it_is(self):
        shell, _ = self.both("league " + QUAD)
        for value in ({"show": [1]}, [["show"]], "show", "far " + QUAD, "joined x", "turn a i", "turn b c"):
            self.assert_untouched(shell.say, value)
