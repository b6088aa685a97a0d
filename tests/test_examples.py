import textwrap

from levelturns import errors
from tests.checks import Case, same
from tests.examples import EXAMPLES


def told_calls(text):
    """Return the pairs of a row that is handed in and of what is told behind it, "" if nothing is."""
    calls = []
    for row in textwrap.dedent(text).strip().split("\n"):
        if row.startswith(">>> "):
            calls.append((row[4:], ""))
        else:
            calls[-1] = (calls[-1][0], row)
    return calls


def is_statement(row):
    try:
        compile(row, "example", "eval")
    except SyntaxError:
        return True
    return False


class ExamplesTest(Case):
    def test_all_examples(self):
        # Names that were set once stay set, in all that follows.
        names = {}
        for label, text in EXAMPLES.items():
            for row, told in told_calls(text):
                with self.subTest(label, row=row):
                    self.check(row, told, names)

    def check(self, row, told, names):
        if is_statement(row):
            self.assertEqual(told, "")
            exec(row, names)
        elif told.startswith("raises "):
            wanted = eval(told[len("raises "):], dict(vars(errors)))
            self.assert_raises(wanted, eval, row, names)
        else:
            self.assertNotEqual(told, "")
            found, wanted = eval(row, names), eval(told)
            self.assertTrue(same(found, wanted), f"{row} is {found!r}")
            self.assertEqual(repr(found), told)
