"""The names and arguments of the interface, and the plain form of the package's files."""

import ast
import inspect
import pathlib
import unittest

from facesagain import (
    both, ends, errors, families, gaps, live, longer, patterns, session, sheets, slips, stretches, texts,
)

PACKAGE = pathlib.Path(errors.__file__).parent

FUNCTIONS = {
    sheets: {
        "sheet_of": ["family", "count", "width"], "days_in": ["sheet"], "width_in": ["sheet"],
        "visits_of": ["sheet", "day"], "unlike_of": ["sheet", "first", "last"],
        "narrowed_sheet": ["sheet", "width"],
    },
    gaps: {
        "gap_of": ["sheet", "first", "second"], "away_of": ["sheet", "day"], "fresh_of": ["sheet", "day"],
        "all_gaps": ["sheet"], "conflict_of": ["sheet"], "shows_conflict": ["sheet", "thing"],
    },
    families: {
        "is_family": ["thing", "count"], "has_sheet": ["sheet", "thing"], "some_family": ["sheet"],
        "joined_family": ["sheet", "joins"],
    },
    longer: {
        "longer_range": ["sheet", "first", "last"], "longer_paper": ["sheet", "first", "last"],
        "longer_family": ["sheet", "first", "last", "number"],
    },
    ends: {
        "new_range": ["sheet", "day"], "again_range": ["sheet", "day"], "gone_range": ["sheet", "day"],
        "next_range": ["sheet", "first", "second"], "all_range": ["sheet"],
    },
    stretches: {
        "common_of": ["sheet", "first", "last", "second", "end"], "came_again": ["sheet", "day"],
    },
    patterns: {
        "pattern_range": ["sheet", "pattern"], "family_with": ["sheet", "pattern", "number"],
        "once_range": ["sheet"], "daily_range": ["sheet"],
    },
    both: {
        "both_range": ["sheet", "first", "second"], "both_family": ["sheet", "first", "second", "number"],
    },
    slips: {
        "value_range": ["sheet", "day", "back"], "corrections": ["sheet"], "least_correction": ["sheet"],
    },
    texts: {
        "write_sheet": ["sheet"], "read_sheet": ["text"], "write_family": ["family"], "read_family": ["text"],
    },
    session: {
        "session": ["rows"],
    },
}

METHODS = {
    "__init__": ["width"], "add": ["row"], "undo": [], "mark": [], "undo_to": ["index"], "twin": [],
    "month": ["first", "last"], "__len__": [],
}

LIBRARY = ("heapq", "math", "itertools", "collections")


class InterfaceTest(unittest.TestCase):
    def test_functions_stand_in_their_files(self):
        for module, told in FUNCTIONS.items():
            for name, arguments in told.items():
                with self.subTest(name=name):
                    found = getattr(module, name)
                    self.assertEqual(found.__module__, module.__name__)
                    self.assertEqual(list(inspect.signature(found).parameters), arguments)

    def test_methods_stand_in_the_class_itself(self):
        self.assertEqual(live.Door.__module__, "facesagain.live")
        self.assertEqual(live.Door.__bases__, (object,))
        for name, arguments in METHODS.items():
            found = vars(live.Door)[name]
            self.assertEqual(list(inspect.signature(found).parameters)[1:], arguments)
        for name in ("width", "sheet"):
            self.assertIsInstance(vars(live.Door)[name], property)
        self.assertNotIn("__eq__", vars(live.Door))

    def test_fields_of_errors(self):
        self.assertEqual(list(inspect.signature(errors.Impossible).parameters), ["word", "first", "second"])
        self.assertEqual(list(inspect.signature(errors.InvalidText).parameters), ["place"])


class FilesTest(unittest.TestCase):
    def setUp(self):
        self.files = sorted(PACKAGE.glob("*.py"))
        self.trees = {path.name: ast.parse(path.read_text(encoding="utf-8")) for path in self.files}

    def test_the_folder_holds_nothing_but_files_of_the_program(self):
        names = {path.name for path in PACKAGE.iterdir()} - {"__pycache__"}
        self.assertEqual(names, {path.name for path in self.files})
        self.assertIn("__init__.py", names)

    def test_characters_and_sizes(self):
        for path in self.files:
            text = path.read_text(encoding="utf-8")
            self.assertTrue(all(" " <= sign <= "~" or sign == "\n" for sign in text), path.name)
            lines = text.split("\n")
            self.assertLess(len(lines), 400, path.name)
            self.assertLessEqual(max(map(len, lines)), 120, path.name)
            for node in ast.walk(self.trees[path.name]):
                if isinstance(node, ast.FunctionDef):
                    self.assertLessEqual(node.end_lineno - node.lineno, 39, node.name)

    def test_imports_are_of_the_package_and_of_the_very_file(self):
        for name, tree in self.trees.items():
            for node in ast.walk(tree):
                self.assertNotIsInstance(node, ast.Import, name)
                if isinstance(node, ast.ImportFrom) and node.module not in LIBRARY:
                    package, _, module = node.module.partition(".")
                    self.assertEqual((package, node.level), ("facesagain", 0), name)
                    defined = {
                        getattr(found, "name", None) or found.targets[0].id for found in self.trees[f"{module}.py"].body
                        if isinstance(found, (ast.FunctionDef, ast.ClassDef, ast.Assign))
                    }
                    self.assertLessEqual({alias.name for alias in node.names}, defined, name)


if __name__ == "__main__":
    unittest.main()
