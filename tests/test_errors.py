import copy

from levelturns import errors
from levelturns.errors import LevelError
from tests.checks import Case

# Each error class and the name of its one argument, None if it takes none.
CLASSES = {
    "Unfit": None, "BadText": "given", "BadLine": "place", "Refused": "turn", "TooMany": "limit",
    "BadLeague": "error", "BadLog": "place", "TooManyEdits": None, "NothingToUndo": None,
    "NothingToRedo": None, "NoVersion": "given",
}
VALUES = [None, True, 0, -1, 10 ** 399, "", "a:b b:a", (), ("match", 0, 1), [[0]], {"a": [1]}]


def made(name):
    """Return errors of this class, made in each way."""
    kind, field = getattr(errors, name), CLASSES[name]
    if field is None:
        return [kind()]
    return [kind(7), kind(**{field: 7})]


class ErrorsTest(Case):
    def test_base(self):
        self.assertIs(LevelError.__base__, ValueError)
        self.assertEqual(LevelError.__bases__, (ValueError,))

    def test_each_stands_directly_under_the_base(self):
        for name in CLASSES:
            with self.subTest(name):
                self.assertEqual(getattr(errors, name).__bases__, (LevelError,))

    def test_there_are_no_other_classes(self):
        found = {name for name in vars(errors) if not name.startswith("_")}
        self.assertEqual(found, set(CLASSES) | {"LevelError"})

    def test_fields_are_kept_by_place_and_by_name(self):
        for name, field in CLASSES.items():
            if field is None:
                continue
            for value in VALUES:
                with self.subTest(name, value=value):
                    kind, before = getattr(errors, name), copy.deepcopy(value)
                    for error in (kind(value), kind(**{field: value})):
                        self.assertEqual(list(vars(error)), [field])
                        self.assertIs(getattr(error, field), value)
                        self.assert_same(value, before)

    def test_those_without_arguments_have_no_fields(self):
        for name, field in CLASSES.items():
            if field is None:
                with self.subTest(name):
                    kind = getattr(errors, name)
                    self.assertEqual(vars(kind()), {})
                    self.assertRaises(TypeError, kind, 7)

    def test_those_with_an_argument_want_it(self):
        for name, field in CLASSES.items():
            if field is not None:
                with self.subTest(name):
                    kind = getattr(errors, name)
                    self.assertRaises(TypeError, kind)
                    self.assertRaises(TypeError, kind, 7, 8)
                    self.assertRaises(TypeError, kind, wrong=7)

    def test_each_is_caught_as_what_it_is(self):
        for name in CLASSES:
            for error in made(name):
                for kind in (getattr(errors, name), LevelError, ValueError):
                    with self.subTest(name, kind=kind):
                        with self.assertRaises(kind) as caught:
                            raise error
                        self.assertIs(caught.exception, error)

    def test_none_is_caught_as_another_one(self):
        for name in CLASSES:
            for other in CLASSES:
                if name != other:
                    self.assertFalse(issubclass(getattr(errors, name), getattr(errors, other)))

    def test_two_errors_of_a_class_know_nothing_of_each_other(self):
        first, second = errors.BadText("x"), errors.BadText("y")
        self.assertEqual((first.given, second.given), ("x", "y"))

    def test_copies_keep_the_fields(self):
        for name in CLASSES:
            for error in made(name):
                with self.subTest(name):
                    twin = copy.copy(error)
                    self.assertIs(type(twin), type(error))
                    self.assertEqual(vars(twin), vars(error))
