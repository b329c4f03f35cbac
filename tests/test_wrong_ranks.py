"""What is wrong for ranks and arcs: which error is raised for it, with what is `given`."""

import unittest

from rimorders.errors import InvalidArc, InvalidNumber, InvalidStep
from rimorders.ranks import first_within, how_many, last_mark, mark_of, next_mark, rank
from wrong import GREAT, NO_INTEGERS, WRONG_ENDS, WRONG_STEPS, Hostile, Wrong

WRONG_COUNTS = NO_INTEGERS + [0, -1, -GREAT, GREAT + 1, GREAT + 2, 10 ** 59]
OF_MARKS = next_mark, last_mark, rank
LOW, HIGH = (1, 8), (1, 2)


class OneWrong(Wrong):

    def test_steps(self):
        for at, wrong in enumerate(WRONG_STEPS):
            with self.subTest(at=at):
                for call in OF_MARKS:
                    self.check(InvalidStep, wrong, call, wrong, 4, 3)
                    self.check(InvalidStep, wrong, call, mark=3, count=4, step=wrong)
                self.check(InvalidStep, wrong, mark_of, wrong, 4, 3)
                self.check(InvalidStep, wrong, mark_of, rank=3, count=4, step=wrong)
                self.check(InvalidStep, wrong, how_many, wrong, 4, LOW, HIGH)
                self.check(InvalidStep, wrong, how_many, high=HIGH, low=LOW, count=4, step=wrong)
                self.check(InvalidStep, wrong, first_within, wrong, LOW, HIGH)
                self.check(InvalidStep, wrong, first_within, high=HIGH, low=LOW, step=wrong)

    def test_counts(self):
        for at, wrong in enumerate(WRONG_COUNTS):
            with self.subTest(at=at):
                for call in OF_MARKS:
                    self.check(InvalidNumber, wrong, call, (3, 8), wrong, 0)
                    self.check(InvalidNumber, wrong, call, mark=0, count=wrong, step=(3, 8))
                self.check(InvalidNumber, wrong, mark_of, (3, 8), wrong, 0)
                self.check(InvalidNumber, wrong, mark_of, rank=0, count=wrong, step=(3, 8))
                self.check(InvalidNumber, wrong, how_many, (3, 8), wrong, LOW, HIGH)
                self.check(InvalidNumber, wrong, how_many, high=HIGH, low=LOW, count=wrong, step=(3, 8))

    def test_marks(self):
        for at, wrong in enumerate(NO_INTEGERS + [-1, -2, -GREAT, 4, 5, GREAT, 10 ** 59]):
            with self.subTest(at=at):
                for call in OF_MARKS:
                    self.check(InvalidNumber, wrong, call, (3, 8), 4, wrong)
                    self.check(InvalidNumber, wrong, call, (0, 1), 4, wrong)
                    self.check(InvalidNumber, wrong, call, mark=wrong, count=4, step=(3, 8))
        for wrong in (GREAT, GREAT + 1):
            for call in OF_MARKS:
                self.check(InvalidNumber, wrong, call, (3, 8), GREAT, wrong)
        for wrong in (1, -1, True):
            for call in OF_MARKS:
                self.check(InvalidNumber, wrong, call, (3, 8), 1, wrong)

    def test_ranks(self):
        for at, wrong in enumerate(NO_INTEGERS + [-1, -2, -GREAT, 4, 5, GREAT, 10 ** 59]):
            with self.subTest(at=at):
                self.check(InvalidNumber, wrong, mark_of, (3, 8), 4, wrong)
                self.check(InvalidNumber, wrong, mark_of, rank=wrong, count=4, step=(3, 8))
        # As many ranks as unlike places, be there more marks.
        self.check(InvalidNumber, 3, mark_of, (1, 3), 9, 3)
        self.check(InvalidNumber, 3, mark_of, (1, 3), GREAT, 3)
        self.check(InvalidNumber, 8, mark_of, (3, 8), GREAT, 8)
        self.check(InvalidNumber, 1, mark_of, (0, 1), GREAT, 1)
        self.check(InvalidNumber, 1, mark_of, (3, 8), 1, 1)
        self.check(InvalidNumber, GREAT, mark_of, (1, 10 ** 59), GREAT, GREAT)

    def test_low(self):
        for at, wrong in enumerate(WRONG_ENDS):
            with self.subTest(at=at):
                self.check(InvalidArc, wrong, how_many, (3, 8), 4, wrong, HIGH)
                self.check(InvalidArc, wrong, how_many, high=HIGH, low=wrong, count=4, step=(3, 8))
                self.check(InvalidArc, wrong, first_within, (3, 8), wrong, HIGH)
                self.check(InvalidArc, wrong, first_within, high=HIGH, low=wrong, step=(3, 8))

    def test_high(self):
        below = [(0, 1), (1, 8), (1, 9), (1, GREAT), (12499, 10 ** 5)]
        for at, wrong in enumerate(WRONG_ENDS + below):
            with self.subTest(at=at):
                self.check(InvalidArc, wrong, how_many, (3, 8), 4, LOW, wrong)
                self.check(InvalidArc, wrong, how_many, high=wrong, low=LOW, count=4, step=(3, 8))
                self.check(InvalidArc, wrong, first_within, (3, 8), LOW, wrong)
                self.check(InvalidArc, wrong, first_within, high=wrong, low=LOW, step=(3, 8))
        # From 1 on there is no arc, from 0 to 0 neither.
        for low, high in (((1, 1), (1, 1)), ((1, 1), (1, 2)), ((1, 1), (0, 1)), ((0, 1), (0, 1))):
            self.check(InvalidArc, high, how_many, (3, 8), 4, low, high)
            self.check(InvalidArc, high, first_within, (3, 8), low, high)


class SeveralWrong(Wrong):

    def test_first_parameter_first(self):
        wrong = [[], Hostile(), (2, 4), None]
        for one in wrong:
            for other in wrong:
                for third in wrong:
                    for call in OF_MARKS:
                        self.check(InvalidStep, one, call, one, other, third)
                        self.check(InvalidNumber, other, call, (3, 8), other, third)
                    self.check(InvalidStep, one, mark_of, one, other, third)
                    self.check(InvalidNumber, other, mark_of, (3, 8), other, third)
                    self.check(InvalidStep, one, how_many, one, other, third, one)
                    self.check(InvalidNumber, one, how_many, (3, 8), one, other, third)
                    self.check(InvalidArc, one, how_many, (3, 8), 4, one, other)
                    self.check(InvalidStep, one, first_within, one, other, third)
                    self.check(InvalidArc, other, first_within, (3, 8), other, third)
                    self.check(InvalidStep, one, first_within, high=third, low=other, step=one)
                    self.check(InvalidNumber, one, how_many, high=third, low=other, count=one, step=(3, 8))

    def test_what_was_passed_is_as_it_was(self):
        wrong = [3, [8]]
        for call in OF_MARKS:
            self.check(InvalidStep, wrong, call, wrong, 4, 3)
            self.check(InvalidNumber, wrong, call, (3, 8), 4, wrong)
        self.check(InvalidArc, wrong, how_many, (3, 8), 4, wrong, wrong)
        self.assertEqual(wrong, [3, [8]])


class Bounds(unittest.TestCase):

    def test_just_within(self):
        for call in OF_MARKS:
            call((3, 8), 1, 0)
            call((3, 8), GREAT, GREAT - 1)
        self.assertEqual(mark_of((3, 8), GREAT, 7), 5)
        self.assertEqual(mark_of((1, 10 ** 59), GREAT, GREAT - 1), GREAT - 1)
        self.assertEqual(how_many((3, 8), GREAT, (0, 1), (1, 1)), GREAT)
        self.assertEqual(first_within((3, 8), (0, 1), (1, 10 ** 59)), 0)


if __name__ == "__main__":
    unittest.main()
