"""The names and arguments of the interface, each in the file that lists it."""

import ast
import importlib
import inspect
import unittest
from pathlib import Path

PACKAGE = Path(__file__).resolve().parent.parent / "rimorders"

FUNCTIONS = {
    "steps": {
        "place": ["step", "mark"],
        "order": ["step", "count"],
        "mirrored": ["step"],
        "parting": ["one", "other"],
        "between": ["one", "other"],
    },
}


class Interface(unittest.TestCase):

    def test_arguments(self):
        for module, functions in FUNCTIONS.items():
            for name, told in functions.items():
                with self.subTest(module=module, name=name):
                    parameters = inspect.signature(getattr(importlib.import_module(f"rimorders.{module}"), name)).parameters
                    self.assertEqual(list(parameters), told)
                    for parameter in parameters.values():
                        self.assertIs(parameter.default, parameter.empty)
                        self.assertIs(parameter.kind, parameter.POSITIONAL_OR_KEYWORD)

    def test_defined_where_listed(self):
        for module, functions in FUNCTIONS.items():
            tree = ast.parse((PACKAGE / f"{module}.py").read_text(encoding="ascii"))
            defined = [row.name for row in tree.body if isinstance(row, ast.FunctionDef)]
            for name in functions:
                with self.subTest(module=module, name=name):
                    self.assertIn(name, defined)


if __name__ == "__main__":
    unittest.main()
