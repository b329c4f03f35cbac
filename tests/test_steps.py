"""Places and orders of known steps: rimorders.steps without parting and between."""

import random
import unittest
from math import gcd

from plain import order_of, pair, place_of, steps_to
from rimorders.steps import mirrored, order, place

FIGURES = 10 ** 30
GREAT_STEPS = [
    (1, 10 ** 59), (10 ** 59 - 1, 10 ** 59), (10 ** 60 - 2, 10 ** 60 - 1), (1, 10 ** 60 - 1),
    (3 ** 125, 10 ** 59 * 9 + 1), (2 ** 99, 10 ** 30 - 1), (10 ** 29, 10 ** 30 - 1), (7, 10 ** 30),
]


def random_step(source, figures):
    bottom = source.randrange(10 ** (figures - 1), 10 ** figures)
    top = source.randrange(bottom)
    shared = gcd(top, bottom)
    return top // shared, bottom // shared


class Examples(unittest.TestCase):

    def test_example(self):
        self.assertEqual(
            [place((3, 8), 3), order((3, 8), 4), order((1, 3), 5), mirrored((3, 8)), mirrored((0, 1)), order((0, 1), 3)],
            [(1, 8), ((0,), (3,), (1,), (2,)), ((0, 3), (1, 4), (2,)), (5, 8), (0, 1), ((0, 1, 2),)],
        )

    def test_by_name(self):
        self.assertEqual(place(step=(3, 8), mark=3), (1, 8))
        self.assertEqual(place(mark=3, step=(3, 8)), (1, 8))
        self.assertEqual(place((3, 8), mark=3), (1, 8))
        self.assertEqual(order(step=(1, 3), count=5), ((0, 3), (1, 4), (2,)))
        self.assertEqual(order(count=5, step=(1, 3)), ((0, 3), (1, 4), (2,)))
        self.assertEqual(mirrored(step=(3, 8)), (5, 8))


class Places(unittest.TestCase):

    def check(self, step, mark):
        with self.subTest(step=step, mark=mark):
            told = place(step, mark)
            self.assertEqual(told, pair(place_of(step, mark)))
            self.assertEqual([type(told), type(told[0]), type(told[1])], [tuple, int, int])

    def test_small_ones(self):
        for step in steps_to(12):
            for mark in range(30):
                self.check(step, mark)

    def test_lowest_terms(self):
        self.assertEqual(place((1, 6), 2), (1, 3))
        self.assertEqual(place((1, 6), 3), (1, 2))
        self.assertEqual(place((5, 6), 12), (0, 1))
        self.assertEqual(place((3, 8), 0), (0, 1))
        self.assertEqual(place((0, 1), 17), (0, 1))

    def test_great_marks(self):
        self.assertEqual(place((1, 3), FIGURES), (1, 3))
        self.assertEqual(place((1, FIGURES), FIGURES), (0, 1))
        self.assertEqual(place((1, FIGURES), FIGURES - 1), (FIGURES - 1, FIGURES))
        self.assertEqual(place((10 ** 60 - 2, 10 ** 60 - 1), FIGURES), (10 ** 60 - 1 - FIGURES, 10 ** 60 - 1))
        source = random.Random(1)
        for mark in [FIGURES, FIGURES - 1] + [source.randrange(FIGURES // 10, FIGURES) for _ in range(40)]:
            for step in GREAT_STEPS + steps_to(6) + [random_step(source, 30), random_step(source, 60)]:
                self.check(step, mark)


class Orders(unittest.TestCase):

    def check(self, step, count):
        with self.subTest(step=step, count=count):
            told = order(step, count)
            self.assertEqual(told, order_of(step, count))
            self.assertIs(type(told), tuple)
            self.assertEqual({type(marks) for marks in told}, {tuple})

    def test_every_count(self):
        source = random.Random(2)
        steps = [(0, 1), (1, 2), (1, 3), (2, 3), (3, 8), (5, 8), (7, 30), (29, 59), (37, 61), (34, 89)]
        for step in steps + [random_step(source, 30), random_step(source, 60), (1, 10 ** 59), (10 ** 60 - 2, 10 ** 60 - 1)]:
            for count in range(1, 61):
                self.check(step, count)

    def test_all_small_steps(self):
        for step in steps_to(16):
            for count in (1, 2, 3, 7, 16, 17, 60):
                self.check(step, count)

    def test_marks_at_one_place_stand_together(self):
        self.assertEqual(order((0, 1), 60), (tuple(range(60)),))
        self.assertEqual(order((1, 2), 5), ((0, 2, 4), (1, 3)))
        self.assertEqual(order((2, 3), 7), ((0, 3, 6), (2, 5), (1, 4)))
        self.assertEqual(order((1, 60), 60), tuple((mark,) for mark in range(60)))
        self.assertEqual(order((1, 59), 60), ((0, 59),) + tuple((mark,) for mark in range(1, 59)))

    def test_one_mark(self):
        for step in steps_to(9):
            self.assertEqual(order(step, 1), ((0,),))


class Mirrored(unittest.TestCase):

    def test_one_less(self):
        for step in steps_to(30)[1:] + GREAT_STEPS:
            with self.subTest(step=step):
                self.assertEqual(mirrored(step), (step[1] - step[0], step[1]))
                self.assertEqual(mirrored(mirrored(step)), step)

    def test_zero(self):
        self.assertEqual(mirrored((0, 1)), (0, 1))

    def test_order_runs_the_other_way_round(self):
        for step in steps_to(14) + GREAT_STEPS:
            for count in (1, 2, 5, 13, 14, 15, 60):
                with self.subTest(step=step, count=count):
                    row = order(step, count)
                    self.assertEqual(order(mirrored(step), count), row[:1] + row[:0:-1])


if __name__ == "__main__":
    unittest.main()
