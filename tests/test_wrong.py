"""What is wrong: which error is raised for it, with what is `given`."""

import unittest

from rimorders.errors import InvalidNumber, InvalidStep
from rimorders.steps import between, mirrored, order, parting, place

GREAT = 10 ** 30


class Hostile:
    """Answers no question that a check has no need to ask."""

    def refuse(self, *_):
        raise RuntimeError("asked")

    __eq__ = __lt__ = __le__ = __gt__ = __ge__ = __len__ = __bool__ = __iter__ = __getitem__ = refuse
    __index__ = __int__ = __repr__ = __hash__ = __contains__ = refuse


class LooksLikeATuple:

    def __len__(self):
        return 2

    def __getitem__(self, at):
        return (3, 8)[at]


def nested(depth):
    value = ()
    for _ in range(depth):
        value = (value, value)
    return value


WRONG_STEPS = [
    # no pairs
    None, True, False, 0, 1, 3, "", "3/8", "38", b"38", {3: 8}, {3, 8}, frozenset((3, 8)), object(), int, Hostile(),
    LooksLikeATuple(), range(2), iter((3, 8)), ValueError("3/8"),
    # lists in the place of tuples
    [3, 8], [], [0, 1], ([3, 8],), ([3], 8), (3, [8]), [(3, 8)],
    # other lengths
    (), (3,), (8,), (3, 8, 1), (0, 1, 1), (3, 8, 8, 3), ((3, 8),), (0,) * 20,
    # elements that are no integers
    (True, 2), (False, 1), (0, True), (False, True), (1, None), (None, 2), ("1", "2"), ("3", 8), (3, "8"), (b"3", 8),
    ((3, 8), 8), (3, (3, 8)), (object(), 8), (3, object()), (Hostile(), 8), (3, Hostile()), (Hostile(), Hostile()),
    nested(18), (LooksLikeATuple(), 2), ({}, 2), (1, {2}),
    # common divisors
    (2, 4), (0, 2), (0, 3), (3, 9), (10, 25), (2 * 10 ** 29, 10 ** 30), (0, 10 ** 59),
    # bottoms of 0 or below
    (0, 0), (1, 0), (-1, 0), (0, -1), (1, -3), (-1, -3), (3, -8), (-3, -8), (-8, -3), (1, -10 ** 59),
    # tops as great as the bottom, greater, or below 0
    (1, 1), (2, 1), (8, 3), (9, 8), (3, 2), (-1, 3), (-3, 8), (-1, 1), (-9, 8), (10 ** 59, 10 ** 59 - 1),
    (-1, 10 ** 59), (2, 2),
]

NO_INTEGERS = [
    None, True, False, "", "3", "mark", b"3", (), (3,), [], [3], {}, {3}, {3: 3}, frozenset(), object(), int, Hostile(),
    LooksLikeATuple(), nested(18),
]
WRONG_MARKS = NO_INTEGERS + [-1, -2, -GREAT, GREAT + 1, GREAT + 2, 10 ** 59]
WRONG_COUNTS = NO_INTEGERS + [0, -1, -60, 61, 62, GREAT, -GREAT]


class Wrong(unittest.TestCase):

    def check(self, error, given, call, *args, **named):
        """It raises just this error, with the very object that was passed."""
        try:
            call(*args, **named)
        except (InvalidNumber, InvalidStep) as raised:
            self.assertIs(type(raised), error)
            self.assertIs(raised.given, given)
        else:
            self.fail("nothing was raised")


class OneWrong(Wrong):

    def test_steps(self):
        for at, wrong in enumerate(WRONG_STEPS):
            with self.subTest(at=at):
                self.check(InvalidStep, wrong, place, wrong, 3)
                self.check(InvalidStep, wrong, order, wrong, 4)
                self.check(InvalidStep, wrong, mirrored, wrong)
                for call in (parting, between):
                    self.check(InvalidStep, wrong, call, wrong, (3, 8))
                    self.check(InvalidStep, wrong, call, (3, 8), wrong)
                    self.check(InvalidStep, wrong, call, (0, 1), wrong)

    def test_steps_by_name(self):
        for at, wrong in enumerate(WRONG_STEPS):
            with self.subTest(at=at):
                self.check(InvalidStep, wrong, place, mark=3, step=wrong)
                self.check(InvalidStep, wrong, order, count=4, step=wrong)
                self.check(InvalidStep, wrong, mirrored, step=wrong)
                for call in (parting, between):
                    self.check(InvalidStep, wrong, call, one=wrong, other=(3, 8))
                    self.check(InvalidStep, wrong, call, other=wrong, one=(3, 8))

    def test_marks(self):
        for at, wrong in enumerate(WRONG_MARKS):
            with self.subTest(at=at):
                self.check(InvalidNumber, wrong, place, (3, 8), wrong)
                self.check(InvalidNumber, wrong, place, (0, 1), wrong)
                self.check(InvalidNumber, wrong, place, mark=wrong, step=(3, 8))

    def test_counts(self):
        for at, wrong in enumerate(WRONG_COUNTS):
            with self.subTest(at=at):
                self.check(InvalidNumber, wrong, order, (3, 8), wrong)
                self.check(InvalidNumber, wrong, order, (0, 1), wrong)
                self.check(InvalidNumber, wrong, order, count=wrong, step=(3, 8))

    def test_what_was_passed_is_as_it_was(self):
        wrong = [3, [8]]
        self.check(InvalidStep, wrong, place, wrong, 0)
        self.check(InvalidNumber, wrong, place, (3, 8), wrong)
        self.assertEqual(wrong, [3, [8]])


class SeveralWrong(Wrong):

    def test_step_ahead_of_mark_and_count(self):
        for at, wrong in enumerate(WRONG_STEPS):
            for number in (None, True, -1, 0, "3", GREAT + 1, [], (2, 4), Hostile()):
                with self.subTest(at=at):
                    self.check(InvalidStep, wrong, place, wrong, number)
                    self.check(InvalidStep, wrong, order, wrong, number)
                    self.check(InvalidStep, wrong, place, mark=number, step=wrong)
                    self.check(InvalidStep, wrong, order, count=number, step=wrong)

    def test_one_ahead_of_other(self):
        for at, wrong in enumerate(WRONG_STEPS):
            for behind in ([1, 2], (2, 4), None, (1, 1), (True, 2), Hostile()):
                with self.subTest(at=at):
                    for call in (parting, between):
                        self.check(InvalidStep, wrong, call, wrong, behind)
                        self.check(InvalidStep, behind, call, behind, wrong)
                        self.check(InvalidStep, wrong, call, other=behind, one=wrong)

    def test_the_same_wrong_one_twice(self):
        for at, wrong in enumerate(WRONG_STEPS):
            with self.subTest(at=at):
                self.check(InvalidStep, wrong, parting, wrong, wrong)
                self.check(InvalidStep, wrong, between, wrong, wrong)


class Bounds(unittest.TestCase):

    def test_just_within(self):
        self.assertEqual(place((3, 8), 0), (0, 1))
        self.assertEqual(place((1, 7), GREAT), (GREAT % 7, 7))
        self.assertEqual(order((3, 8), 1), ((0,),))
        self.assertEqual(sum(len(marks) for marks in order((3, 8), 60)), 60)
        self.assertEqual(mirrored((1, 10 ** 60 - 1)), (10 ** 60 - 2, 10 ** 60 - 1))
        self.assertEqual(between((0, 1), (10 ** 60 - 2, 10 ** 60 - 1)), (0, 1))


if __name__ == "__main__":
    unittest.main()
