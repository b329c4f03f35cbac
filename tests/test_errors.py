"""Each class of errors: its attributes, its one base class."""

import inspect
import unittest

from rimorders import errors

BASES = {"NotRight": ValueError, "NotKnown": LookupError, "NotPossible": ArithmeticError}

TOLD = {
    "InvalidText": ("NotRight", ["given"]),
    "InvalidNumber": ("NotRight", ["given"]),
    "InvalidName": ("NotRight", ["given"]),
    "InvalidIndex": ("NotRight", ["given"]),
    "InvalidStep": ("NotRight", ["given"]),
    "InvalidArc": ("NotRight", ["given"]),
    "InvalidSighting": ("NotRight", ["given"]),
    "InvalidClaim": ("NotRight", ["given"]),
    "InvalidCommand": ("NotRight", ["given"]),
    "NotALot": ("NotRight", ["given"]),
    "InvalidPieces": ("NotRight", ["index"]),
    "InvalidOrder": ("NotRight", ["index"]),
    "InvalidSightings": ("NotRight", ["index"]),
    "UnknownName": ("NotKnown", ["given"]),
    "InUse": ("NotKnown", ["index"]),
    "NothingToUndo": ("NotKnown", []),
    "NoStep": ("NotPossible", []),
    "TooMany": ("NotPossible", ["most"]),
    "Broken": ("NotPossible", ["index", "shown"]),
}

VALUES = [
    None, True, False, 0, -1, 10 ** 70, "", "word", b"bytes", (), (1, (2, 3)), [], [1, [2]],
    {}, {"a": 1}, {1, 2}, object(), ValueError("inner"), len, int, 0.5,
]


class Classes(unittest.TestCase):

    def test_base_classes(self):
        for name, builtin in BASES.items():
            with self.subTest(name):
                self.assertEqual(getattr(errors, name).__bases__, (builtin,))

    def test_each_class_has_its_one_base_class(self):
        for name, (base, _) in TOLD.items():
            with self.subTest(name):
                made = getattr(errors, name)
                own = [above for above in made.__mro__ if above.__module__.startswith("rimorders")]
                self.assertEqual(own, [made, getattr(errors, base)])
                self.assertEqual(made.__module__, "rimorders.errors")

    def test_no_class_is_under_another_base(self):
        for name, (base, _) in TOLD.items():
            for other in BASES:
                with self.subTest(name=name, other=other):
                    self.assertIs(issubclass(getattr(errors, name), getattr(errors, other)), other == base)

    def test_names_of_attributes(self):
        for name, (_, attributes) in TOLD.items():
            with self.subTest(name):
                self.assertEqual(list(inspect.signature(getattr(errors, name)).parameters), attributes)

    def test_too_few_and_too_many(self):
        for name, (_, attributes) in TOLD.items():
            with self.subTest(name):
                made = getattr(errors, name)
                with self.assertRaises(TypeError):
                    made(*[1 for _ in attributes], 1)
                if attributes:
                    with self.assertRaises(TypeError):
                        made()


class Attributes(unittest.TestCase):

    def check(self, made, attributes, values):
        for attribute, value in zip(attributes, values):
            self.assertIs(getattr(made, attribute), value)

    def test_by_position_and_by_name(self):
        for name, (_, attributes) in TOLD.items():
            for first in range(len(VALUES)):
                values = [VALUES[(first + k) % len(VALUES)] for k in range(len(attributes))]
                named = dict(zip(attributes, values))
                backwards = dict(reversed(list(named.items())))
                with self.subTest(name=name, values=values):
                    self.check(getattr(errors, name)(*values), attributes, values)
                    self.check(getattr(errors, name)(**named), attributes, values)
                    self.check(getattr(errors, name)(**backwards), attributes, values)

    def test_raised_and_caught(self):
        for name, (base, attributes) in TOLD.items():
            values = [object() for _ in attributes]
            for caught in (getattr(errors, name), getattr(errors, base), BASES[base]):
                with self.subTest(name=name, caught=caught):
                    with self.assertRaises(caught) as held:
                        raise getattr(errors, name)(*values)
                    self.check(held.exception, attributes, values)

    def test_first_and_second_of_broken(self):
        for made in (errors.Broken(3, "none"), errors.Broken(3, shown="none"), errors.Broken(shown="none", index=3)):
            self.assertEqual((made.index, made.shown), (3, "none"))

    def test_objects_keep_their_own_attributes(self):
        one, other = errors.InvalidStep((2, 4)), errors.InvalidStep(None)
        self.assertEqual(one.given, (2, 4))
        self.assertIsNone(other.given)


if __name__ == "__main__":
    unittest.main()
