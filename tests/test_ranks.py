"""Neighbours and ranks of marks: rimorders.ranks without arcs."""

import random
import unittest
from fractions import Fraction
from math import gcd

from plain import moved, neighbours, order_of, pair, place_of, steps_to
from rimorders.ranks import first_within, how_many, last_mark, mark_of, next_mark, rank
from rimorders.steps import place

GREAT = 10 ** 30


def random_step(source, bottom):
    top = source.randrange(1, bottom)
    shared = gcd(top, bottom)
    return top // shared, bottom // shared


def searched_beside(step, count, mark, way):
    """The least mark at the nearest place ahead or behind, by trying one top after the other."""
    top, bottom = step
    turned = pow(top, -1, bottom)
    where = top * mark % bottom
    for _ in range(bottom - 1):
        where = (where + way) % bottom
        if where * turned % bottom < count:
            return where * turned % bottom
    return None


class Examples(unittest.TestCase):

    def test_example(self):
        self.assertEqual(
            [next_mark((3, 8), 4, 0), next_mark((3, 8), 4, 2), last_mark((3, 8), 4, 0), rank((3, 8), 4, 1),
             mark_of((3, 8), 4, 2), next_mark((1, 3), 9, 7), next_mark((1, 3), 1, 0)],
            [3, 0, 2, 2, 1, 2, None],
        )
        self.assertEqual(
            [how_many((3, 8), 4, (1, 8), (1, 2)), first_within((3, 8), (1, 2), (3, 4)), first_within((1, 3), (1, 2), (3, 5)),
             how_many((1, 10 ** 30), 10 ** 30, (1, 4), (1, 2)) == 10 ** 30 // 4],
            [2, 4, None, True],
        )

    def test_by_name(self):
        self.assertEqual(next_mark(step=(3, 8), count=4, mark=2), 0)
        self.assertEqual(next_mark(mark=2, count=4, step=(3, 8)), 0)
        self.assertEqual(last_mark(step=(3, 8), count=4, mark=0), 2)
        self.assertEqual(last_mark((3, 8), mark=0, count=4), 2)
        self.assertEqual(rank(step=(3, 8), count=4, mark=1), 2)
        self.assertEqual(rank(mark=1, step=(3, 8), count=4), 2)
        self.assertEqual(mark_of(step=(3, 8), count=4, rank=2), 1)
        self.assertEqual(mark_of(rank=2, count=4, step=(3, 8)), 1)
        self.assertEqual(how_many(step=(3, 8), count=4, low=(1, 8), high=(1, 2)), 2)
        self.assertEqual(how_many(high=(1, 2), low=(1, 8), count=4, step=(3, 8)), 2)
        self.assertEqual(first_within(step=(3, 8), low=(1, 2), high=(3, 4)), 4)
        self.assertEqual(first_within(high=(3, 4), step=(3, 8), low=(1, 2)), 4)


class AgainstOrder(unittest.TestCase):

    def check(self, step, count):
        row = order_of(step, count)
        for at, marks in enumerate(row):
            ahead = row[(at + 1) % len(row)][0] if len(row) > 1 else None
            behind = row[at - 1][0] if len(row) > 1 else None
            for mark in marks:
                told = [next_mark(step, count, mark), last_mark(step, count, mark), rank(step, count, mark)]
                self.assertEqual(told, [ahead, behind, at], (step, count, mark))
            self.assertEqual(mark_of(step, count, at), marks[0], (step, count, at))
            self.assertIs(type(mark_of(step, count, at)), int)

    def test_all_small_ones(self):
        for step in steps_to(11):
            for count in range(1, 27):
                self.check(step, count)

    def test_some_with_more_marks(self):
        source = random.Random(4)
        for step in [(1, 30), (29, 30), (13, 31), (34, 55), (21, 89), (37, 200), (1, 500), (499, 500), (1, GREAT)]:
            for count in (1, 2, 3, 29, 30, 31, 54, 55, 56, 90):
                self.check(step, count)
        for figures in range(1, 60, 6):
            self.check(random_step(source, source.randrange(2, 10 ** figures)), source.randrange(1, 100))

    def test_marks_at_one_place(self):
        self.assertEqual([next_mark((1, 3), 9, mark) for mark in range(9)], [1, 2, 0] * 3)
        self.assertEqual([last_mark((1, 3), 9, mark) for mark in range(9)], [2, 0, 1] * 3)
        self.assertEqual([rank((1, 3), 9, mark) for mark in range(9)], [0, 1, 2] * 3)
        self.assertEqual([rank((2, 3), GREAT, mark) for mark in range(9)], [0, 2, 1] * 3)
        self.assertEqual(next_mark((2, 3), GREAT, GREAT - 1), 2)
        self.assertEqual(mark_of((2, 3), GREAT, 2), 1)

    def test_none_behind(self):
        for count in (1, 2, 7, GREAT):
            self.assertEqual([next_mark((0, 1), count, count - 1), last_mark((0, 1), count, count - 1)], [None, None])
            self.assertEqual([rank((0, 1), count, count - 1), mark_of((0, 1), count, 0)], [0, 0])
        for step in steps_to(7) + [(3 ** 60, 10 ** 59)]:
            self.assertEqual([next_mark(step, 1, 0), last_mark(step, 1, 0)], [None, None])
            self.assertEqual([rank(step, 1, 0), mark_of(step, 1, 0)], [0, 0])

    def test_two_places(self):
        for step, count in (((1, 2), 2), ((1, 2), 9), ((1, GREAT), 2), ((3, 8), 2)):
            self.assertEqual([next_mark(step, count, 0), next_mark(step, count, 1)], [1, 0])
            self.assertEqual([last_mark(step, count, 0), last_mark(step, count, 1)], [1, 0])


class Great(unittest.TestCase):

    def test_searched_place_by_place(self):
        # So many marks, beside the bottom, that few places are tried until one has a mark.
        source = random.Random(5)
        for _ in range(150):
            figures = source.randrange(4, 31)
            step = random_step(source, source.randrange(10 ** (figures - 1), 10 ** figures))
            count = max(1, min(GREAT, step[1] // source.randrange(1, 30) + source.randrange(3)))
            for mark in (0, count - 1, source.randrange(count), source.randrange(count)):
                with self.subTest(step=step, count=count, mark=mark):
                    self.assertEqual(next_mark(step, count, mark), searched_beside(step, count, mark, 1))
                    self.assertEqual(last_mark(step, count, mark), searched_beside(step, count, mark, -1))

    def test_known_neighbours(self):
        source = random.Random(6)
        for figures in (5, 12, 20, 29, 30):
            for _ in range(5):
                low, high = neighbours(*random_step(source, source.randrange(10 ** (figures - 1), 10 ** figures)))
                step = moved(low, high, source.randrange(1, 10 ** 20))
                step = pair(Fraction(*moved(step, low, source.randrange(10 ** 9))))
                first, last = low[1], high[1]
                # By [8] these come behind 0 for all numbers of marks above both and up to both together.
                for count in (max(first, last) + 1, first + last, source.randrange(max(first, last), first + last) + 1):
                    if 2 <= count <= min(GREAT, step[1]):
                        with self.subTest(step=step, count=count):
                            self.check_eight(step, count, first, last, source)

    def check_eight(self, step, count, first, last, source):
        self.assertEqual([next_mark(step, count, 0), last_mark(step, count, 0)], [first, last])
        marks = [0, count - 1, count - first - 1, count - first, last - 1, last, first]
        marks += [source.randrange(count) for _ in range(4)]
        for mark in marks:
            if not 0 <= mark < count:
                continue
            told = mark + first if mark < count - first else mark - last if mark >= last else mark + first - last
            self.assertEqual(next_mark(step, count, mark), told)
            self.assertEqual(last_mark(step, count, told), mark)
            nearer = rank(step, count, mark)
            self.assertEqual(rank(step, count, told), 0 if told == 0 else nearer + 1)
            self.assertEqual(mark_of(step, count, nearer), mark)
            # None of the first ones stands between.
            if told:
                self.assertEqual(how_many(step, count, place(step, mark), place(step, told)), 1)
            elif mark:
                self.assertEqual(how_many(step, count, place(step, mark), (1, 1)), 1)

    def test_more_marks_than_places(self):
        source = random.Random(7)
        for figures in (2, 10, 28, 29):
            step = random_step(source, source.randrange(10 ** (figures - 1), 10 ** figures))
            top, bottom = step
            for count in (bottom, bottom + 1, 2 * bottom, GREAT):
                for mark in (0, 1, bottom - 1, count - 1, source.randrange(count)):
                    with self.subTest(step=step, count=count, mark=mark):
                        where = top * mark % bottom
                        self.assertEqual(rank(step, count, mark), where)
                        self.assertEqual(mark_of(step, count, where), mark % bottom)
                        self.assertEqual(next_mark(step, count, mark), searched_beside(step, count, mark, 1))
                        self.assertEqual(last_mark(step, count, mark), searched_beside(step, count, mark, -1))

    def test_bottoms_beyond_the_marks(self):
        for step in ((1, 10 ** 60 - 1), (10 ** 60 - 2, 10 ** 60 - 1)):
            low_first = step[0] == 1
            self.assertEqual(next_mark(step, GREAT, 0), 1 if low_first else GREAT - 1)
            self.assertEqual(last_mark(step, GREAT, 0), GREAT - 1 if low_first else 1)
            self.assertEqual(rank(step, GREAT, 12345), 12345 if low_first else GREAT - 12345)
            self.assertEqual(mark_of(step, GREAT, 12345), 12345 if low_first else GREAT - 12345)

    def test_ranks_and_marks_undo_each_other(self):
        source = random.Random(8)
        for _ in range(25):
            step = random_step(source, source.randrange(2, 10 ** source.randrange(1, 61)))
            count = source.randrange(1, 10 ** source.randrange(1, 31))
            many = min(count, step[1])
            for nearer in {0, many - 1, source.randrange(many)}:
                with self.subTest(step=step, count=count, rank=nearer):
                    mark = mark_of(step, count, nearer)
                    self.assertTrue(0 <= mark < many)
                    self.assertEqual(rank(step, count, mark), nearer)
                    if mark:
                        self.assertEqual(how_many(step, many, (0, 1), pair(place_of(step, mark))), nearer)


if __name__ == "__main__":
    unittest.main()
