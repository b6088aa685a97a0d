"""The interface as the document lists it, and the rules of the language that can be measured."""

import ast
from pathlib import Path

from tests.checks import Case

FOLDER = Path(__file__).resolve().parent.parent / "levelturns"

# The functions that each file defines, with the names of their arguments.
INTERFACE = {
    "leagues": {
        "league_error": ["value"], "beat": ["league", "a", "b"], "wins": ["league"],
        "turned": ["league", "a", "b"], "renamed": ["league", "order"], "contrary": ["league"],
    },
    "rankings": {"order_error": ["n", "value"], "ranking": ["order"], "order_of": ["league"]},
    "leaguetexts": {"league_text": ["league"], "read_league": ["value"]},
    "turns": {
        "turn_kind": ["league", "a", "b"], "turn_error": ["league", "value"], "done": ["league", "turn"],
        "led": ["league", "some"], "open_rises": ["league"], "open_falls": ["league"],
    },
    "rings": {
        "rings": ["league"], "ring_count": ["league"], "rings_with": ["league", "side"],
        "ring_change": ["league", "a", "b"],
    },
    "signs": {
        "sign": ["league"], "order_sign": ["order"], "joined": ["one", "other"], "way": ["one", "other"],
    },
    "joinpapers": {"paper": ["one", "other"], "paper_error": ["one", "other", "value"]},
    "risings": {
        "row_count": ["league"], "next_counts": ["league"], "row_at": ["league", "number"],
        "row_number": ["league", "value"],
    },
    "kept": {
        "covers": ["league", "a", "b"], "kept_row": ["league", "side"], "ahead_row": ["league", "a", "b"],
    },
    "reached": {
        "ends": ["league"], "row_to": ["league", "order"], "sure": ["league"], "cheapest": ["league", "prices"],
    },
    "nearest": {
        "differing": ["one", "other"], "direct_way": ["one", "other"], "distance": ["one", "other"],
        "nearest_way": ["one", "other"],
    },
    "tables": {
        "table_error": ["value"], "league_with": ["table"], "all_tables": ["n"], "table_rings": ["table"],
        "table_rows": ["table"], "count_with": ["table"], "rises_of": ["table"], "most_rings": ["n"],
        "with_rings": ["n", "number"],
    },
    "lows": {"is_low": ["league"], "low_row": ["league"]},
    "halves": {
        "half_error": ["value"], "opens": ["half"], "filled": ["half", "winners"], "most_ringed": ["half"],
        "most_error": ["half", "value"], "ring_range": ["half"], "half_signs": ["half"],
    },
    "books": {"is_name": ["value"], "book_error": ["value"]},
}

# What the rules let in from the library, as far as it is used.
LIBRARY = {"itertools": {"combinations"}}


def files():
    return sorted(FOLDER.glob("*.py"))


def tree(path):
    return ast.parse(path.read_text())


class InterfaceTest(Case):
    def test_each_function_is_defined_in_its_file(self):
        for module, wanted in INTERFACE.items():
            body = tree(FOLDER / f"{module}.py").body
            found = {one.name: one.args for one in body if isinstance(one, ast.FunctionDef)}
            for name, names in wanted.items():
                with self.subTest(module, name=name):
                    told = found[name]
                    self.assertEqual([one.arg for one in told.args], names)
                    self.assertEqual((told.posonlyargs, told.kwonlyargs, told.defaults), ([], [], []))
                    self.assertEqual((told.vararg, told.kwarg), (None, None))


class RulesTest(Case):
    def test_the_folder_holds_files_alone(self):
        for path in FOLDER.iterdir():
            if path.name != "__pycache__":
                self.assertRegex(path.name, r"^[a-z_0-9]+\.py$")
        self.assertTrue((FOLDER / "__init__.py").is_file())

    def test_signs_and_lengths(self):
        for path in files():
            text = path.read_text()
            self.assertLessEqual(len(text.split("\n")), 399, path.name)
            for at, row in enumerate(text.split("\n"), 1):
                with self.subTest(path.name, row=at):
                    self.assertLessEqual(len(row), 120)
                    self.assertTrue(all(" " <= sign <= "~" for sign in row))

    def test_functions_have_at_most_forty_lines(self):
        for path in files():
            for one in ast.walk(tree(path)):
                if isinstance(one, ast.FunctionDef):
                    self.assertLessEqual(one.end_lineno - one.lineno + 1, 40, one.name)

    def test_imports_come_from_the_package_alone(self):
        for path in files():
            for one in ast.walk(tree(path)):
                self.assertNotIsInstance(one, ast.Import, path.name)
                if isinstance(one, ast.ImportFrom):
                    self.assertEqual(one.level, 0, path.name)
                    names = {name.name for name in one.names}
                    known = one.module.startswith("levelturns.") or names <= LIBRARY.get(one.module, set())
                    self.assertTrue(known, path.name)

    def test_no_two_files_import_from_each_other(self):
        wanted = {path.stem: self.imported_by(path) for path in files()}
        while wanted:
            free = [name for name, others in wanted.items() if not others & set(wanted)]
            self.assertNotEqual(free, [], wanted)
            for name in free:
                del wanted[name]

    def imported_by(self, path):
        imports = [one.module for one in ast.walk(tree(path)) if isinstance(one, ast.ImportFrom)]
        return {module.split(".")[1] for module in imports if module.startswith("levelturns.")}

    def test_modules_keep_no_state(self):
        plain = (ast.ImportFrom, ast.FunctionDef, ast.ClassDef, ast.Assign)
        for path in files():
            body = tree(path).body
            self.assertIsNotNone(ast.get_docstring(tree(path)), path.name)
            for one in body[1:]:
                self.assertIsInstance(one, plain, path.name)
