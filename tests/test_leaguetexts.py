from levelturns.errors import BadText, LevelError
from levelturns.leaguetexts import league_text, read_league
from tests.checks import Case
from tests.samples import LEAGUES, ODD_VALUES, SMALL, ranked, round_league

# The texts of all leagues of up to four sides.
TEXTS = {}
for _league in SMALL:
    TEXTS[" ".join("abcd"[a] + ":" + "".join("abcd"[b] for b in row) for a, row in enumerate(_league))] = _league

SIGNS = " :abcdehi.AB0\n\t-"


def changed(text):
    """Return all strings that come of text by a sign fewer, one more, or another one."""
    found = set()
    for at in range(len(text) + 1):
        found.add(text[:at] + text[at + 1:])
        for sign in SIGNS:
            found.add(text[:at] + sign + text[at:])
            found.add(text[:at] + sign + text[at + 1:])
    return found - {text}


class LeagueTextTest(Case):
    def test_small_leagues(self):
        for text, league in TEXTS.items():
            self.assert_same(league_text(league), text, league)

    def test_eight_sides(self):
        self.assert_same(
            league_text(ranked(range(8))), "a:bcdefgh b:cdefgh c:defgh d:efgh e:fgh f:gh g:h h:"
        )
        self.assert_same(
            league_text(ranked(range(7, -1, -1))), "a: b:a c:ab d:abc e:abcd f:abcde g:abcdef h:abcdefg"
        )

    def test_unlike_leagues_have_unlike_texts(self):
        unlike = set(LEAGUES)
        self.assertEqual(len({league_text(league) for league in unlike}), len(unlike))

    def test_by_name(self):
        self.assert_same(league_text(league=((1,), ())), "a:b b:")


class ReadLeagueTest(Case):
    def assert_bad(self, value):
        error = self.assert_raises(BadText(value), read_league, value)
        self.assertIs(error.given, value)
        self.assertIsInstance(error, LevelError)

    def test_texts(self):
        for league in LEAGUES:
            self.assert_same(read_league(league_text(league)), league, league)

    def test_texts_with_a_sign_changed(self):
        for text in TEXTS:
            if len(text) < 16:
                for value in changed(text):
                    if value in TEXTS:
                        self.assert_same(read_league(value), TEXTS[value], value)
                    else:
                        self.assert_bad(value)

    def test_large_texts_with_a_sign_changed(self):
        texts = {league_text(league) for league in LEAGUES}
        for text in (league_text(round_league(8)), league_text(ranked(range(5)))):
            for value in changed(text) - texts:
                self.assert_bad(value)

    def test_strings_that_are_none(self):
        for value in ("", " ", ":", "a", "a:a", "b:", "A:", "a: ", " a:", "a:\n", "\na:", "a:b", "a:b b:a", "a: b:",
                      "a:b  b:", "a:b\nb:", "a:b\tb:", "a:b,b:", "a:bb b:", "b: a:b", "a:c c:", "a:b b: b:",
                      "a:b b:c c:a ", "a:b b:c c:b", "a:b b:c c", "ab bc ca", "a.b b.c c.a", "a:b:b", "a:b b:c c:A",
                      "a:cb b:c c:", "a:bc b:c", "a:bc b:c c:d", "a:bi b:c c:", "a:bc c: b:c", "i:", "a:" * 10000,
                      "a:bc b:c c:\n", "a:bc b:c c:" * 2, "((1,), ())", "a:bcdefghi b:cdefghi c:defghi d:efghi "
                      "e:fghi f:ghi g:hi h:i i:"):
            self.assert_bad(value)

    def test_values_that_are_no_strings(self):
        for value in (None, True, 5, ("a:",), ["a:"], {"a:": 1}, ((),), ((1,), ()), ["a", ":"]):
            self.assert_bad(value)

    def test_odd_values(self):
        for value in ODD_VALUES:
            self.assert_bad(value)
            self.assert_untouched(read_league, value)

    def test_by_name(self):
        self.assert_same(read_league(value="a:b b:"), ((1,), ()))
        self.assert_raises(BadText("a"), read_league, value="a")
