"""The form of the package: its files, its imports, its sizes and its interface."""

import ast
import importlib
import inspect
import unittest
from pathlib import Path

PACKAGE = Path(__file__).resolve().parent.parent / "neverleaves"
FILES = sorted(path for path in PACKAGE.iterdir() if path.name != "__pycache__")

ERRORS = (
    "ControlError", "InvalidExpression", "InvalidPlant", "InvalidArena", "InvalidGoal", "BadText",
    "NoPosition", "Held", "NotHeld", "BadReply", "Lost",
)
INTERFACE = {
    "expressions": {
        "check_expression": "expression", "check_condition": "condition", "value_of": "expression values",
        "holds": "condition values", "names_in": "expression",
    },
    "texts": {
        "write_expression": "expression", "write_condition": "condition", "read_expression": "text",
        "read_condition": "text", "write_plant": "plant", "read_plant": "text",
    },
    "plants": {
        "check_plant": "plant", "states_of": "plant", "inputs_of": "plant state", "replies_of": "plant",
        "next_state": "plant state move reply",
    },
    "compiling": {
        "arena_of": "plant", "positions_where": "plant condition", "gains_of": "plant expression",
        "position_of": "plant state",
    },
    "arenas": {"check_arena": "arena", "check_goal": "arena goal"},
    "plays": {"play_on": "arena start options replies", "follow": "arena paper start picks"},
    "solving": {"told_paper": "arena goal", "owners": "arena goal"},
    "judging": {"judge": "arena goal paper"},
    "papertexts": {"write_arena": "arena", "write_paper": "paper", "read_arena": "text", "read_paper": "text"},
    "strategies": {
        "strategy_of": "paper", "least_bad_row": "arena keep strategy start", "home_steps": "arena home strategy start",
        "bad_ring": "arena colours strategy start", "strategy_credit": "arena gains strategy start",
    },
    "shields": {"shield": "arena keep"},
    "beats": {"least_beats": "arena home"},
    "costs": {"least_costs": "arena home costs"},
    "means": {"means": "arena gains"},
    "delays": {"delayed_arena": "arena delay"},
    "tables": {"table_of": "plant strategy", "run": "plant table state replies"},
    "readings": {"known_arena": "arena readings starts", "can_know": "arena keep readings starts"},
    "loops": {"Loop": "arena keep start", "replayed": "arena keep start journal"},
}
LOOP = {
    "do": "self deed", "position": "self", "is_held": "self", "arena": "self", "keep": "self", "paper": "self",
    "journal": "self",
}


def trees():
    for path in FILES:
        yield path, ast.parse(path.read_text(encoding="utf-8"))


class Form(unittest.TestCase):
    def test_the_folder_has_plain_python_files_only(self):
        for path in FILES:
            self.assertRegex(path.name, r"\A[a-z_]+\.py\Z")

    def test_characters_and_sizes(self):
        for path in FILES:
            text = path.read_text(encoding="utf-8")
            lines = text.split("\n")
            with self.subTest(path.name):
                self.assertTrue(set(text) <= {chr(code) for code in range(32, 127)} | {"\n"})
                self.assertLessEqual(len(lines), 399)
                self.assertLessEqual(max(len(line) for line in lines), 120)

    def test_the_sizes_of_functions(self):
        for path, tree in trees():
            for node in ast.walk(tree):
                if isinstance(node, ast.FunctionDef):
                    with self.subTest(path.name, function=node.name):
                        self.assertLessEqual(node.end_lineno - node.lineno + 1, 40)

    def test_no_string_has_the_sign_that_formats(self):
        for path, tree in trees():
            for node in ast.walk(tree):
                if isinstance(node, ast.Constant) and isinstance(node.value, str):
                    with self.subTest(path.name, line=node.lineno):
                        self.assertNotIn("%", node.value)

    def test_imports_name_the_file_of_the_package_that_defines_the_name(self):
        for path, tree in trees():
            for node in ast.walk(tree):
                self.assertNotIsInstance(node, ast.Import, path.name)
                if not isinstance(node, ast.ImportFrom):
                    continue
                with self.subTest(path.name, line=node.lineno):
                    self.assertEqual(node.level, 0)
                    package, name = node.module.split(".")
                    self.assertEqual(package, "neverleaves")
                    defined = self.defined(ast.parse((PACKAGE / (name + ".py")).read_text(encoding="utf-8")))
                    for alias in node.names:
                        self.assertIn(alias.name, defined)
                        self.assertIsNone(alias.asname)

    def defined(self, tree):
        names = []
        for node in tree.body:
            if isinstance(node, (ast.FunctionDef, ast.ClassDef)):
                names.append(node.name)
            if isinstance(node, ast.Assign):
                names.extend(target.id for target in node.targets)
        return names

    def test_the_interface_is_defined_where_it_is_listed(self):
        for module, functions in INTERFACE.items():
            loaded = importlib.import_module("neverleaves." + module)
            for name, arguments in functions.items():
                with self.subTest(module, name=name):
                    function = getattr(loaded, name)
                    self.assertEqual(function.__module__, "neverleaves." + module)
                    self.assertEqual(list(inspect.signature(function).parameters), arguments.split())

    def test_the_methods_are_defined_in_their_class(self):
        loop = importlib.import_module("neverleaves.loops").Loop
        self.assertEqual(loop.__bases__, (object,))
        for name, arguments in LOOP.items():
            self.assertEqual(list(inspect.signature(vars(loop)[name]).parameters), arguments.split())

    def test_the_errors_are_defined_where_they_are_listed(self):
        loaded = importlib.import_module("neverleaves.errors")
        for name in ERRORS:
            self.assertEqual(getattr(loaded, name).__module__, "neverleaves.errors")


if __name__ == "__main__":
    unittest.main()
