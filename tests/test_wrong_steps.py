"""What is wrong for steps: which error is raised for it, with what is `given`."""

import unittest

from rimorders.errors import InvalidNumber, InvalidStep
from rimorders.steps import between, mirrored, order, parting, place
from wrong import GREAT, NO_INTEGERS, WRONG_STEPS, Hostile, Wrong

WRONG_MARKS = NO_INTEGERS + [-1, -2, -GREAT, GREAT + 1, GREAT + 2, 10 ** 59]
WRONG_COUNTS = NO_INTEGERS + [0, -1, -60, 61, 62, GREAT, -GREAT]


class OneWrong(Wrong):

    def test_steps(self):
        for at, wrong in enumerate(WRONG_STEPS):
            with self.subTest(at=at):
                self.check(InvalidStep, wrong, place, wrong, 3)
                self.check(InvalidStep, wrong, order, wrong, 4)
                self.check(InvalidStep, wrong, mirrored, wrong)
                for call in (parting, between):
                    self.check(InvalidStep, wrong, call, wrong, (3, 8))
                    self.check(InvalidStep, wrong, call, (3, 8), wrong)
                    self.check(InvalidStep, wrong, call, (0, 1), wrong)

    def test_steps_by_name(self):
        for at, wrong in enumerate(WRONG_STEPS):
            with self.subTest(at=at):
                self.check(InvalidStep, wrong, place, mark=3, step=wrong)
                self.check(InvalidStep, wrong, order, count=4, step=wrong)
                self.check(InvalidStep, wrong, mirrored, step=wrong)
                for call in (parting, between):
                    self.check(InvalidStep, wrong, call, one=wrong, other=(3, 8))
                    self.check(InvalidStep, wrong, call, other=wrong, one=(3, 8))

    def test_marks(self):
        for at, wrong in enumerate(WRONG_MARKS):
            with self.subTest(at=at):
                self.check(InvalidNumber, wrong, place, (3, 8), wrong)
                self.check(InvalidNumber, wrong, place, (0, 1), wrong)
                self.check(InvalidNumber, wrong, place, mark=wrong, step=(3, 8))

    def test_counts(self):
        for at, wrong in enumerate(WRONG_COUNTS):
            with self.subTest(at=at):
                self.check(InvalidNumber, wrong, order, (3, 8), wrong)
                self.check(InvalidNumber, wrong, order, (0, 1), wrong)
                self.check(InvalidNumber, wrong, order, count=wrong, step=(3, 8))

    def test_what_was_passed_is_as_it_was(self):
        wrong = [3, [8]]
        self.check(InvalidStep, wrong, place, wrong, 0)
        self.check(InvalidNumber, wrong, place, (3, 8), wrong)
        self.assertEqual(wrong, [3, [8]])


class SeveralWrong(Wrong):

    def test_step_ahead_of_mark_and_count(self):
        for at, wrong in enumerate(WRONG_STEPS):
            for number in (None, True, -1, 0, "3", GREAT + 1, [], (2, 4), Hostile()):
                with self.subTest(at=at):
                    self.check(InvalidStep, wrong, place, wrong, number)
                    self.check(InvalidStep, wrong, order, wrong, number)
                    self.check(InvalidStep, wrong, place, mark=number, step=wrong)
                    self.check(InvalidStep, wrong, order, count=number, step=wrong)

    def test_one_ahead_of_other(self):
        for at, wrong in enumerate(WRONG_STEPS):
            for behind in ([1, 2], (2, 4), None, (1, 1), (True, 2), Hostile()):
                with self.subTest(at=at):
                    for call in (parting, between):
                        self.check(InvalidStep, wrong, call, wrong, behind)
                        self.check(InvalidStep, behind, call, behind, wrong)
                        self.check(InvalidStep, wrong, call, other=behind, one=wrong)

    def test_the_same_wrong_one_twice(self):
        for at, wrong in enumerate(WRONG_STEPS):
            with self.subTest(at=at):
                self.check(InvalidStep, wrong, parting, wrong, wrong)
                self.check(InvalidStep, wrong, between, wrong, wrong)


class Bounds(unittest.TestCase):

    def test_just_within(self):
        self.assertEqual(place((3, 8), 0), (0, 1))
        self.assertEqual(place((1, 7), GREAT), (GREAT % 7, 7))
        self.assertEqual(order((3, 8), 1), ((0,),))
        self.assertEqual(sum(len(marks) for marks in order((3, 8), 60)), 60)
        self.assertEqual(mirrored((1, 10 ** 60 - 1)), (10 ** 60 - 2, 10 ** 60 - 1))
        self.assertEqual(between((0, 1), (10 ** 60 - 2, 10 ** 60 - 1)), (0, 1))


if __name__ == "__main__":
    unittest.main()
