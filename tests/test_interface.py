"""The names and arguments of the interface, each in the file that lists it."""

import ast
import importlib
import inspect
import unittest
from pathlib import Path

PACKAGE = Path(__file__).resolve().parent.parent / "rimorders"

FUNCTIONS = {
    "steps": {
        "place": ["step", "mark"],
        "order": ["step", "count"],
        "mirrored": ["step"],
        "parting": ["one", "other"],
        "between": ["one", "other"],
    },
    "ranks": {
        "next_mark": ["step", "count", "mark"],
        "last_mark": ["step", "count", "mark"],
        "rank": ["step", "count", "mark"],
        "mark_of": ["step", "count", "rank"],
        "how_many": ["step", "count", "low", "high"],
        "first_within": ["step", "low", "high"],
    },
    "lots": {
        "has": ["lot", "step"],
        "inside": ["lot", "mate"],
        "both": ["lot", "mate"],
        "either": ["lot", "mate"],
        "others": ["lot"],
        "simplest": ["lot"],
    },
    "sightings": {
        "lot_of": ["sighting"],
        "lot_of_all": ["sightings"],
        "is_right": ["sighting", "step"],
        "striking": ["sightings"],
    },
    "orders": {
        "steps_of": ["row"],
        "steps_of_some": ["row"],
        "how_many_orders": ["count"],
        "all_orders": ["count"],
        "broken_at": ["row"],
    },
    "telling": {
        "judge": ["lot", "sighting"],
        "shown": ["lot", "sighting"],
        "orders_in": ["lot", "count"],
        "sure_next": ["lot", "count", "mark"],
        "parting_in": ["lot"],
        "best_offer": ["lot", "offers", "count"],
    },
    "scaled": {
        "thinned": ["lot", "number"],
        "thinned_from": ["lot", "number"],
        "mirror": ["lot"],
    },
    "doubts": {
        "lot_with": ["sightings", "most"],
        "fewest_wrong": ["sightings"],
        "surely_wrong": ["sightings", "most"],
        "surely_right": ["sightings", "most"],
    },
    "checker": {
        "accepts": ["claim", "paper"],
    },
    "certificates": {
        "certify_fit": ["sightings"],
        "certify_judged": ["sightings", "sighting"],
        "certify_parting": ["one", "other", "count"],
    },
}

# For each class its methods and properties, each with its parameters behind the object or the class.
CLASSES = {
    "lots": {
        "Lot": {
            "__init__": ["pieces"], "read": ["text"], "pieces": None, "text": None, "width": None, "__str__": [], "__repr__": [],
            "__eq__": ["other"],
        },
    },
    "rims": {
        "Rim": {
            "__init__": [], "note": ["sighting"], "forget": ["index"], "undo": [], "sightings": None, "lot": None,
            "simplest": None, "changes": None, "judge": ["sighting"], "trial": [], "tried": ["action"],
        },
    },
    "desks": {
        "Desk": {
            "__init__": [], "put": ["name", "lot"], "thing": ["name"], "drop": ["name"], "claim": ["claim"], "lift": ["index"],
            "undo": [], "names": None, "claims": None, "changes": None, "__contains__": ["name"], "trial": [], "tried": ["action"],
        },
    },
    "console": {
        "Console": {"__init__": [], "desk": None, "run": ["command"]},
    },
}


class Interface(unittest.TestCase):

    def check(self, call, told):
        parameters = inspect.signature(call).parameters
        self.assertEqual(list(parameters), told)
        for parameter in parameters.values():
            self.assertIs(parameter.default, parameter.empty)
            self.assertIs(parameter.kind, parameter.POSITIONAL_OR_KEYWORD)

    def test_arguments(self):
        for module, functions in FUNCTIONS.items():
            for name, told in functions.items():
                with self.subTest(module=module, name=name):
                    self.check(getattr(importlib.import_module(f"rimorders.{module}"), name), told)

    def test_classes(self):
        for module, classes in CLASSES.items():
            for name, parts in classes.items():
                made = getattr(importlib.import_module(f"rimorders.{module}"), name)
                for part, told in parts.items():
                    with self.subTest(module=module, name=name, part=part):
                        self.assertIn(part, vars(made))
                        if told is None:
                            self.assertIsInstance(vars(made)[part], property)
                        elif isinstance(vars(made)[part], classmethod):
                            self.check(getattr(made, part), told)
                        else:
                            self.check(vars(made)[part], ["self", *told])

    def test_defined_where_listed(self):
        for module in [*FUNCTIONS, *CLASSES]:
            tree = ast.parse((PACKAGE / f"{module}.py").read_text(encoding="ascii"))
            defined = [row.name for row in tree.body if isinstance(row, (ast.FunctionDef, ast.ClassDef))]
            for name in [*FUNCTIONS.get(module, []), *CLASSES.get(module, [])]:
                with self.subTest(module=module, name=name):
                    self.assertIn(name, defined)


if __name__ == "__main__":
    unittest.main()
