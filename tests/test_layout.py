"""The interface as the document lists it, and the rules of the language that can be measured."""

import ast
from pathlib import Path

from tests.checks import Case

FOLDER = Path(__file__).resolve().parent.parent / "levelturns"

# The functions that each file defines, with the names of their arguments.
INTERFACE = {
    "leagues": {
        "league_error": ["value"], "beat": ["league", "a", "b"], "wins": ["league"],
        "turned": ["league", "a", "b"], "renamed": ["league", "order"], "contrary": ["league"],
    },
    "rankings": {"order_error": ["n", "value"], "ranking": ["order"], "order_of": ["league"]},
    "leaguetexts": {"league_text": ["league"], "read_league": ["value"]},
    "turns": {
        "turn_kind": ["league", "a", "b"], "turn_error": ["league", "value"], "done": ["league", "turn"],
        "led": ["league", "some"], "open_rises": ["league"], "open_falls": ["league"],
    },
    "rings": {
        "rings": ["league"], "ring_count": ["league"], "rings_with": ["league", "side"],
        "ring_change": ["league", "a", "b"],
    },
    "signs": {
        "sign": ["league"], "order_sign": ["order"], "joined": ["one", "other"], "way": ["one", "other"],
    },
    "joinpapers": {"paper": ["one", "other"], "paper_error": ["one", "other", "value"]},
    "risings": {
        "row_count": ["league"], "next_counts": ["league"], "row_at": ["league", "number"],
        "row_number": ["league", "value"],
    },
    "kept": {
        "covers": ["league", "a", "b"], "kept_row": ["league", "side"], "ahead_row": ["league", "a", "b"],
    },
    "reached": {
        "ends": ["league"], "row_to": ["league", "order"], "sure": ["league"], "cheapest": ["league", "prices"],
    },
    "nearest": {
        "differing": ["one", "other"], "direct_way": ["one", "other"], "distance": ["one", "other"],
        "nearest_way": ["one", "other"],
    },
    "tables": {
        "table_error": ["value"], "league_with": ["table"], "all_tables": ["n"], "table_rings": ["table"],
        "table_rows": ["table"], "count_with": ["table"], "rises_of": ["table"], "most_rings": ["n"],
        "with_rings": ["n", "number"],
    },
    "lows": {"is_low": ["league"], "low_row": ["league"]},
    "halves": {
        "half_error": ["value"], "opens": ["half"], "filled": ["half", "winners"], "most_ringed": ["half"],
        "most_error": ["half", "value"], "ring_range": ["half"], "half_signs": ["half"],
    },
    "books": {"is_name": ["value"], "book_error": ["value"]},
    "booktexts": {"book_text": ["book"], "read_book": ["value"]},
    "answers": {"answered": ["book"]},
    "desks": {"desk_behind": ["value", "log"]},
}

# The classes that a file defines: their methods with the names of the arguments, and their properties.
CLASSES = {
    ("desks", "Desk"): (
        {
            "__init__": ["value"], "turn": ["a", "b"], "rise": [], "fall": [], "undo": [], "redo": [], "at": ["version"],
            "left": [], "is_ranking": [], "copy": [], "__eq__": ["other"],
        },
        {"league", "wins", "rings", "sign", "version", "log"},
    ),
    ("shells", "Shell"): ({"__init__": [], "say": ["line"]}, set()),
}

# What the rules let in from the library, as far as it is used.
LIBRARY = {"itertools": {"combinations"}}


def files():
    return sorted(FOLDER.glob("*.py"))


def tree(path):
    return ast.parse(path.read_text())


def functions_in(body):
    return {one.name: one for one in body if isinstance(one, ast.FunctionDef)}


class InterfaceTest(Case):
    def check_arguments(self, told, names):
        self.assertEqual([one.arg for one in told.args], names)
        self.assertEqual((told.posonlyargs, told.kwonlyargs, told.defaults), ([], [], []))
        self.assertEqual((told.vararg, told.kwarg), (None, None))

    def test_each_function_is_defined_in_its_file(self):
        for module, wanted in INTERFACE.items():
            found = functions_in(tree(FOLDER / f"{module}.py").body)
            for name, names in wanted.items():
                with self.subTest(module, name=name):
                    self.check_arguments(found[name].args, names)

    def test_each_method_is_defined_in_its_class(self):
        for (module, name), (methods, properties) in CLASSES.items():
            body = tree(FOLDER / f"{module}.py").body
            found = functions_in([one for one in body if isinstance(one, ast.ClassDef) and one.name == name][0].body)
            for method, names in methods.items():
                with self.subTest(name, method=method):
                    self.check_arguments(found[method].args, ["self", *names])
                    self.assertEqual(found[method].decorator_list, [])
            for told in properties:
                with self.subTest(name, property=told):
                    self.assertEqual([one.id for one in found[told].decorator_list], ["property"])
            known = set(methods) | properties
            self.assertEqual({one for one in found if not one.startswith("_")}, {one for one in known if one[0] != "_"})

    def test_the_keywords_stand_in_their_file(self):
        names = [one.targets[0].id for one in tree(FOLDER / "books.py").body if isinstance(one, ast.Assign)]
        self.assertIn("KEYWORDS", names)


class RulesTest(Case):
    def test_the_folder_holds_files_alone(self):
        for path in FOLDER.iterdir():
            if path.name != "__pycache__":
                self.assertRegex(path.name, r"^[a-z_0-9]+\.py$")
        self.assertTrue((FOLDER / "__init__.py").is_file())

    def test_signs_and_lengths(self):
        for path in files():
            text = path.read_text()
            self.assertLessEqual(len(text.split("\n")), 399, path.name)
            for at, row in enumerate(text.split("\n"), 1):
                with self.subTest(path.name, row=at):
                    self.assertLessEqual(len(row), 120)
                    self.assertTrue(all(" " <= sign <= "~" for sign in row))

    def test_functions_have_at_most_forty_lines(self):
        for path in files():
            for one in ast.walk(tree(path)):
                if isinstance(one, ast.FunctionDef):
                    self.assertLessEqual(one.end_lineno - one.lineno + 1, 40, one.name)

    def test_no_local_name_is_that_of_an_import_or_a_class(self):
        for path in files():
            whole = list(ast.walk(tree(path)))
            taken = {name.name for one in whole if isinstance(one, ast.ImportFrom) for name in one.names}
            taken |= {one.name for one in whole if isinstance(one, ast.ClassDef)}
            local = {one.arg for one in whole if isinstance(one, ast.arg)}
            local |= {one.id for one in whole if isinstance(one, ast.Name) and isinstance(one.ctx, ast.Store)}
            self.assertEqual(local & taken, set(), path.name)

    def test_there_are_no_generator_expressions(self):
        # A class compares, so any, all, sum, min, max and sorted take lists.
        for path in files():
            self.assertFalse(any(isinstance(one, ast.GeneratorExp) for one in ast.walk(tree(path))), path.name)

    def test_imports_come_from_the_package_alone(self):
        for path in files():
            for one in ast.walk(tree(path)):
                self.assertNotIsInstance(one, ast.Import, path.name)
                if isinstance(one, ast.ImportFrom):
                    self.assertEqual(one.level, 0, path.name)
                    names = {name.name for name in one.names}
                    known = one.module.startswith("levelturns.") or names <= LIBRARY.get(one.module, set())
                    self.assertTrue(known, path.name)

    def test_no_two_files_import_from_each_other(self):
        wanted = {path.stem: self.imported_by(path) for path in files()}
        while wanted:
            free = [name for name, others in wanted.items() if not others & set(wanted)]
            self.assertNotEqual(free, [], wanted)
            for name in free:
                del wanted[name]

    def imported_by(self, path):
        imports = [one.module for one in ast.walk(tree(path)) if isinstance(one, ast.ImportFrom)]
        return {module.split(".")[1] for module in imports if module.startswith("levelturns.")}

    def test_modules_keep_no_state(self):
        plain = (ast.ImportFrom, ast.FunctionDef, ast.ClassDef, ast.Assign)
        for path in files():
            body = tree(path).body
            self.assertIsNotNone(ast.get_docstring(tree(path)), path.name)
            for one in body[1:]:
                self.assertIsInstance(one, plain, path.name)
