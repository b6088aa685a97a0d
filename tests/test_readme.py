import doctest
from pathlib import Path

from tests.checks import Case

README = Path(__file__).resolve().parent.parent / "README.md"


class ReadmeTest(Case):
    def test_what_it_shows_holds(self):
        found = doctest.testfile(str(README), module_relative=False)
        self.assertGreater(found.attempted, 0)
        self.assertEqual(found.failed, 0)
