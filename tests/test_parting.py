"""Where two steps make one order: parting and between of rimorders.steps."""

import random
import unittest
from fractions import Fraction
from math import gcd

from plain import moved, neighbours, order_of, searched_between, searched_parting, steps_to
from rimorders.steps import between, order, parting

GREAT = 10 ** 30


def coprime_pair(source, bottom):
    top = source.randrange(2, bottom - 1)
    while gcd(top, bottom) != 1:
        top = source.randrange(2, bottom - 1)
    return top, bottom


class Examples(unittest.TestCase):

    def test_example(self):
        self.assertEqual(
            [parting((3, 8), (2, 5)), between((3, 8), (2, 5)), parting((3, 8), (3, 7)), parting((3, 8), (3, 8)),
             parting((10 ** 29, 10 ** 30 - 1), (1, 10))],
            [6, (2, 5), 6, None, 11],
        )

    def test_by_name(self):
        self.assertEqual(parting(one=(3, 8), other=(2, 5)), 6)
        self.assertEqual(parting(other=(2, 5), one=(3, 8)), 6)
        self.assertEqual(parting((3, 8), other=(2, 5)), 6)
        self.assertEqual(between(one=(3, 8), other=(2, 5)), (2, 5))
        self.assertEqual(between(other=(2, 5), one=(3, 8)), (2, 5))


class Searched(unittest.TestCase):

    def check(self, one, other):
        with self.subTest(one=one, other=other):
            found = searched_between(one, other)
            number = searched_parting(one, other) if one != other else None
            for told in (between(one, other), between(other, one)):
                self.assertEqual(told, found)
                self.assertEqual([type(told), type(told[0]), type(told[1])], [tuple, int, int])
            self.assertEqual([parting(one, other), parting(other, one)], [number, number])

    def test_all_small_steps(self):
        steps = steps_to(11)
        for at, one in enumerate(steps):
            for other in steps[at:]:
                self.check(one, other)

    def test_equal_ones(self):
        for step in steps_to(12) + [(29, 59), (1, 40)]:
            self.assertEqual(between(step, step), step)
            self.assertIsNone(parting(step, step))
        step = (10 ** 60 - 2, 10 ** 60 - 1)
        self.assertEqual(between(step, (10 ** 60 - 2, 10 ** 60 - 1)), step)
        self.assertIsNone(parting(step, (10 ** 60 - 2, 10 ** 60 - 1)))

    def test_zero(self):
        for other in ((1, 2), (1, 9), (8, 9), (1, GREAT), (GREAT - 1, GREAT)):
            self.assertEqual([between((0, 1), other), between(other, (0, 1))], [(0, 1), (0, 1)])
            self.assertEqual([parting((0, 1), other), parting(other, (0, 1))], [2, 2])

    def test_far_steps(self):
        for one, other in (((1, 59), (58, 59)), ((1, 50), (1, 3)), ((2, 49), (30, 61)), ((3, 7), (4, 7))):
            self.check(one, other)

    def test_neighbours(self):
        for bottom in (7, 12, 13, 30, 41):
            row = sorted(steps_to(bottom), key=lambda step: Fraction(*step))
            for low, high in list(zip(row, row[1:]))[::7]:
                self.check(low, high)

    def test_near_steps(self):
        for one, other in (((50, 101), (49, 99)), ((33, 100), (32, 97)), ((21, 55), (34, 89)), ((89, 144), (55, 89)),
                           ((41, 99), (70, 169)), ((17, 58), (29, 99)), ((99, 100), (98, 99)), ((1, 99), (1, 100))):
            self.check(one, other)


class LastAlike(unittest.TestCase):
    """So many marks make unlike orders, one less alike ones, and so does every lesser number."""

    def test_by_order(self):
        steps = steps_to(9) + [(29, 59), (28, 57), (31, 59), (19, 50), (11, 29), (18, 47)]
        for one in steps:
            for other in steps:
                number = parting(one, other)
                if one == other:
                    continue
                with self.subTest(one=one, other=other):
                    self.assertNotEqual(order(one, number), order(other, number))
                    for count in range(1, number):
                        self.assertEqual(order(one, count), order(other, count))
                    self.assertNotEqual(order(one, 60), order(other, 60))

    def test_near_golden_steps(self):
        row = [(1, 2), (2, 3)]
        while len(row) < 10:
            row.append((row[-1][1], row[-1][0] + row[-1][1]))
        for one, other in zip(row, row[1:]):
            number = parting(one, other)
            self.assertEqual(number, one[1] + 1)
            self.assertNotEqual(order_of(one, number), order_of(other, number))
            self.assertEqual(order_of(one, number - 1), order_of(other, number - 1))


class Great(unittest.TestCase):

    def check(self, one, other, simplest):
        with self.subTest(one=one, other=other):
            self.assertEqual([between(one, other), between(other, one)], [simplest, simplest])
            self.assertEqual([parting(one, other), parting(other, one)], [simplest[1] + 1, simplest[1] + 1])

    def test_near_fractions(self):
        source = random.Random(3)
        for figures in (3, 10, 20, 29, 30):
            for _ in range(60):
                middle = coprime_pair(source, source.randrange(10 ** (figures - 1), 10 ** figures))
                low, high = neighbours(*middle)
                self.assertEqual(high[0] * low[1] - low[0] * high[1], 1)
                # Between two neighbours nothing has a lesser bottom than both of them together.
                near_low = moved(low, middle, source.randrange(1, 10 ** 25))
                near_high = moved(high, middle, source.randrange(1, 10 ** 25))
                self.check(near_low, near_high, middle)
                self.check(near_low, middle, middle)
                self.check(middle, near_high, middle)
                self.check(low, middle, low)
                self.check(middle, high, high)

    def test_next_to_a_half(self):
        self.check((GREAT // 2 - 1, GREAT - 1), (GREAT // 2, GREAT + 1), (GREAT // 2 - 1, GREAT - 1))
        self.check((GREAT // 2 - 1, GREAT - 1), (GREAT // 2 + 1, GREAT + 1), (1, 2))

    def test_next_to_zero_and_one(self):
        self.check((1, GREAT), (1, GREAT - 1), (1, GREAT - 1))
        self.check((GREAT - 1, GREAT), (GREAT - 2, GREAT - 1), (GREAT - 2, GREAT - 1))
        self.check((1, 10 ** 60 - 1), (1, 10 ** 59), (1, 10 ** 59))
        self.check((10 ** 60 - 2, 10 ** 60 - 1), (10 ** 59 - 1, 10 ** 59), (10 ** 59 - 1, 10 ** 59))

    def test_long_chains(self):
        row = [(1, 2), (2, 3)]
        while row[-1][1] < 10 ** 59:
            row.append((row[-1][1], row[-1][0] + row[-1][1]))
        for one, other in zip(row, row[1:]):
            self.check(one, other, one)

    def test_with_great_far_steps(self):
        self.check((1, 10 ** 60 - 1), (10 ** 60 - 2, 10 ** 60 - 1), (1, 2))
        self.check((10 ** 29, 10 ** 30 - 1), (1, 9), (1, 9))


if __name__ == "__main__":
    unittest.main()
