"""Where the interface is defined, and what the package may consist of."""

import ast
import inspect
import unittest
from importlib import import_module
from pathlib import Path
from types import FunctionType

PACKAGE = Path(__file__).resolve().parent.parent / "castchains"
INTERFACE = {
    "errors": {name: ["value"] for name in ["InvalidStep", "InvalidForm", "InvalidNumber", "InvalidRange",
                                            "ChangedNumber", "NothingToUndo", "Unreadable"]},
    "steps": {"converted": ["number", "chain"], "stages": ["number", "chain"], "fits": ["number", "word", "width"]},
    "forms": {"form": ["chain"], "same_function": ["first", "second"], "chain_of": ["wanted"]},
    "values": {"value_intervals": ["chain"], "nth_value": ["chain", "number"], "origins": ["chain", "value"]},
    "ranges": {"outputs": ["chain", "first", "last"], "count_inputs": ["chain", "first", "last", "low", "high"],
               "unchanged": ["chain"]},
    "shortest": {"fewest_casts": ["chain"], "fewest_steps": ["chain"], "shortest": ["chain"]},
    "parting": {"parting_number": ["first", "second"], "commute": ["first", "second"]},
    "repeating": {"repeated": ["number", "chain", "times"], "undoing": ["chain", "first", "last"]},
    "counting": {"count_functions": ["widths"], "nth_form": ["widths", "least", "number"], "form_number": ["wanted"]},
    "texts": {"show_chain": ["chain"]},
    "readings": {"read_chain": ["text"]},
    "registers": {"Register": ["number"], "CheckedRegister": ["number"]},
}
METHODS = {
    "Register": {"number": property, "steps": property, "changes": property, "read": classmethod,
                 "convert": FunctionType, "undo": FunctionType, "past": FunctionType},
    "CheckedRegister": {"convert": FunctionType},
}


def files():
    return sorted(PACKAGE.glob("*.py"))


class LayoutTest(unittest.TestCase):
    def test_interface_stands_in_its_files(self):
        for file, names in INTERFACE.items():
            module = import_module(f"castchains.{file}")
            for name, parameters in names.items():
                with self.subTest(file=file, name=name):
                    found = getattr(module, name)
                    self.assertEqual(found.__module__, module.__name__)
                    self.assertEqual(list(inspect.signature(found).parameters), parameters)

    def test_methods_stand_in_their_classes(self):
        module = import_module("castchains.registers")
        for name, methods in METHODS.items():
            for method, kind in methods.items():
                with self.subTest(name=name, method=method):
                    self.assertIs(type(vars(getattr(module, name))[method]), kind)

    def test_sizes_and_characters(self):
        for path in files():
            lines = path.read_text(encoding="utf-8").split("\n")
            with self.subTest(path=path.name):
                self.assertLessEqual(len(lines), 399)
                self.assertLessEqual(max([len(line) for line in lines]), 120)
                self.assertTrue(all([" " <= sign <= "~" for line in lines for sign in line]))

    def test_functions_are_short(self):
        for path in files():
            for node in ast.walk(ast.parse(path.read_text(encoding="utf-8"))):
                if isinstance(node, ast.FunctionDef):
                    with self.subTest(path=path.name, name=node.name):
                        self.assertLessEqual(node.end_lineno - node.lineno + 1, 40)

    def test_imports_come_from_the_package(self):
        for path in files():
            for node in ast.walk(ast.parse(path.read_text(encoding="utf-8"))):
                self.assertNotIsInstance(node, ast.Import)
                if isinstance(node, ast.ImportFrom):
                    with self.subTest(path=path.name, line=node.lineno):
                        self.assertEqual(node.level, 0)
                        self.assertTrue(node.module.startswith("castchains."))


if __name__ == "__main__":
    unittest.main()
