"""What is wrong for the tests: values that are none of what is asked for, and how an error is asked."""

import unittest

from rimorders.errors import NotKnown, NotPossible, NotRight
from rimorders.lots import Lot

GREAT = 10 ** 30


class Hostile:
    """Answers no question that a check has no need to ask."""

    def refuse(self, *_):
        raise RuntimeError("asked")

    __eq__ = __lt__ = __le__ = __gt__ = __ge__ = __len__ = __bool__ = __iter__ = __getitem__ = refuse
    __index__ = __int__ = __repr__ = __hash__ = __contains__ = refuse


class LooksLikeATuple:

    def __len__(self):
        return 2

    def __getitem__(self, at):
        return (3, 8)[at]


def nested(depth):
    value = ()
    for _ in range(depth):
        value = (value, value)
    return value


# What is no fraction from 0 to 1: no end of an arc, of a piece, of a sighting.
WRONG_ENDS = [
    # no pairs
    None, True, False, 0, 1, 3, "", "3/8", "38", b"38", {3: 8}, {3, 8}, frozenset((3, 8)), object(), int, Hostile(),
    LooksLikeATuple(), range(2), iter((3, 8)), ValueError("3/8"),
    # lists in the place of tuples
    [3, 8], [], [0, 1], ([3, 8],), ([3], 8), (3, [8]), [(3, 8)],
    # other lengths
    (), (3,), (8,), (3, 8, 1), (0, 1, 1), (3, 8, 8, 3), ((3, 8),), (0,) * 20,
    # elements that are no integers
    (True, 2), (False, 1), (0, True), (False, True), (1, None), (None, 2), ("1", "2"), ("3", 8), (3, "8"), (b"3", 8),
    ((3, 8), 8), (3, (3, 8)), (object(), 8), (3, object()), (Hostile(), 8), (3, Hostile()), (Hostile(), Hostile()),
    nested(18), (LooksLikeATuple(), 2), ({}, 2), (1, {2}),
    # common divisors
    (2, 4), (0, 2), (0, 3), (3, 9), (10, 25), (2 * 10 ** 29, 10 ** 30), (0, 10 ** 59),
    # bottoms of 0 or below
    (0, 0), (1, 0), (-1, 0), (0, -1), (1, -3), (-1, -3), (3, -8), (-3, -8), (-8, -3), (1, -10 ** 59),
    # tops as great as the bottom, greater, or below 0
    (2, 1), (8, 3), (9, 8), (3, 2), (-1, 3), (-3, 8), (-1, 1), (-9, 8), (10 ** 59, 10 ** 59 - 1),
    (-1, 10 ** 59), (2, 2),
]

WRONG_STEPS = WRONG_ENDS + [(1, 1)]

NO_INTEGERS = [
    None, True, False, "", "3", "mark", b"3", (), (3,), [], [3], {}, {3}, {3: 3}, frozenset(), object(), int, Hostile(),
    LooksLikeATuple(), nested(18),
]

WRONG_LOTS = NO_INTEGERS + [
    0, 1, 3, "none", "[1/3]", b"none", (1, 3), ((1, 3), (2, 5), True, False), (((1, 3), (2, 5), True, False),), Lot, Lot.read,
    (Lot(()),), [Lot(())], ValueError("none"),
]

# What is no mark of a sighting, no number of marks of one, no end of an arc of one.
NO_MARKS = NO_INTEGERS + [-1, -2, 41, 42, -GREAT, GREAT, 10 ** 59]
NO_SIGHTING_COUNTS = NO_INTEGERS + [1, 0, -1, -41, 42, 43, GREAT]
NO_SIGHTING_ENDS = WRONG_ENDS + [(1, 61), (60, 61), (1, 62), (1, 10 ** 30), (30, 61), (119, 120)]
WRONG_SIGHTINGS = [
    *NO_INTEGERS, 0, 3, "turn", "next", b"turn", Lot(()),
    # no words, other words, words elsewhere
    (0, 1, 2), (None, 0, 1, 2), (0, 0, 1, 2), ("", 0, 1, 2), ("Turn", 0, 1, 2), ("turn ", 0, 1, 2), (" turn", 0, 1, 2),
    ("turns", 0, 1, 2), ("tur", 0, 1, 2), ("off", 0, 1), ("ON", 0, 1), ("last", 3, 0, 1), ("inside", 0, 1, (0, 1), (1, 2)),
    (b"turn", 0, 1, 2), (b"on", 0, 1), (("turn",), 0, 1, 2), (["on"], 0, 1), ({"on"}, 0, 1), ({}, 0, 1), (0, 1, "on"),
    (0, "on", 1), (True, 0, 1), (Hostile(), 0, 1), (Hostile(), 0, 1, 2), (LooksLikeATuple(), 0, 1), ("sure", ("on", 0, 1)),
    (("on", 0, 1),), (("on", 0, 1), ("on", 0, 2)), ("x" * 8000, 0, 1), (nested(17), 0, 1),
    # lists in the place of tuples
    ["turn", 0, 1, 2], ["on", 0, 1], ["next", 3, 0, 1], ["within", 0, 1, (1, 3), (1, 2)], ("turn", [0, 1, 2]),
    ("turn", [0], 1, 2), ("within", 0, 1, [1, 3], (1, 2)), ("within", 0, 1, (1, 3), [1, 2]),
    # other lengths
    ("turn",), ("on",), ("within",), ("next",), ("turn", 0), ("turn", 0, 1), ("turn", 0, 1, 2, 3), ("on", 0), ("on", 0, 1, 2),
    ("within", 0, 1), ("within", 0, 1, (1, 3)), ("within", 0, 1, (1, 3), (1, 2), (2, 3)), ("next", 3), ("next", 3, 0),
    ("next", 3, 0, 1, 2), ("turn", (0, 1, 2)), ("on", (0, 1)), ("next", 0, 1), ("turn", 0, 1, 2, None),
    # words of others
    ("on", 0, 1, (1, 3), (1, 2)), ("turn", 0, 1, (1, 3), (1, 2)), ("within", 0, 1, 2), ("turn", 0, 1, (1, 2)),
    # marks that are not unlike
    ("turn", 0, 0, 1), ("turn", 0, 1, 0), ("turn", 1, 0, 0), ("turn", 7, 7, 7), ("on", 0, 0), ("on", 40, 40),
    ("within", 3, 3, (0, 1), (1, 2)), ("next", 5, 3, 3), ("next", 2, 0, 0),
    # marks that are not below the number
    ("next", 2, 0, 2), ("next", 2, 2, 0), ("next", 5, 5, 0), ("next", 5, 0, 5), ("next", 5, 6, 0), ("next", 5, 0, 40),
    ("next", 40, 0, 40), ("next", 40, 40, 0), ("next", 41, 0, 41), ("next", 41, 41, 0), ("next", 41, -1, 0),
    # arcs whose low end is not the lesser one
    ("within", 0, 1, (1, 2), (1, 3)), ("within", 0, 1, (1, 2), (1, 2)), ("within", 0, 1, (0, 1), (0, 1)),
    ("within", 0, 1, (1, 1), (1, 1)), ("within", 0, 1, (1, 1), (0, 1)), ("within", 0, 1, (59, 60), (58, 59)),
    # each part by itself
    *[("turn", wrong, 1, 2) for wrong in NO_MARKS], *[("turn", 1, wrong, 2) for wrong in NO_MARKS],
    *[("turn", 4, 2, wrong) for wrong in NO_MARKS], *[("on", wrong, 2) for wrong in NO_MARKS],
    *[("on", 2, wrong) for wrong in NO_MARKS], *[("within", wrong, 2, (1, 3), (1, 2)) for wrong in NO_MARKS],
    *[("within", 2, wrong, (1, 3), (1, 2)) for wrong in NO_MARKS], *[("next", wrong, 0, 1) for wrong in NO_SIGHTING_COUNTS],
    *[("next", 41, wrong, 2) for wrong in NO_MARKS], *[("next", 41, 2, wrong) for wrong in NO_MARKS],
    *[("within", 0, 1, wrong, (1, 1)) for wrong in NO_SIGHTING_ENDS],
    *[("within", 0, 1, (0, 1), wrong) for wrong in NO_SIGHTING_ENDS],
]


class Wrong(unittest.TestCase):

    def raised(self, error, call, *args, **named):
        """It raises just this error, which is returned."""
        try:
            call(*args, **named)
        except (NotRight, NotKnown, NotPossible) as raised:
            self.assertIs(type(raised), error)
            return raised
        self.fail("nothing was raised")

    def check(self, error, given, call, *args, **named):
        """It raises just this error, with the very object that was passed."""
        self.assertIs(self.raised(error, call, *args, **named).given, given)

    def check_index(self, error, index, call, *args, **named):
        """It raises just this error, with this index, an integer or None."""
        told = self.raised(error, call, *args, **named).index
        self.assertEqual((type(told), told), (type(index), index))
