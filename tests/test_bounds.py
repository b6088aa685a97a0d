from levelturns import bounds
from tests.checks import Case

WANTED = {
    "MAX_SIDES": 8, "MAX_REACHED": 5, "MAX_NEAR": 4, "MAX_WAY": 100, "MAX_OPEN": 8,
    "MAX_PRICE": 1000, "MAX_EDITS": 40, "MAX_NAMES": 30, "MAX_ASKS": 30,
}


class BoundsTest(Case):
    def test_all_bounds_have_their_values(self):
        for name, worth in WANTED.items():
            with self.subTest(name):
                self.assert_same(getattr(bounds, name), worth)

    def test_there_are_no_other_bounds(self):
        self.assertEqual({name for name in vars(bounds) if not name.startswith("_")}, set(WANTED))
