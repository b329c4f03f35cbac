"""Marks in arcs: how_many and first_within of rimorders.ranks."""

import random
import unittest
from fractions import Fraction
from math import gcd

from plain import arc, fractions_to, neighbours, pair, place_of, steps_to
from rimorders.ranks import first_within, how_many

GREAT = 10 ** 30


def random_step(source, figures):
    bottom = source.randrange(10 ** (figures - 1), 10 ** figures)
    top = source.randrange(bottom)
    shared = gcd(top, bottom)
    return top // shared, bottom // shared


def random_arc(source, bottom):
    low, high = sorted(source.sample(range(bottom + 1), 2))
    return pair(Fraction(low, bottom)), pair(Fraction(high, bottom))


class MarkByMark(unittest.TestCase):

    def test_all_small_ones(self):
        ends = [pair(end) for end in fractions_to(5)] + [(1, 8), (5, 8), (1, 100), (99, 100)]
        arcs = [(low, high) for low in ends for high in ends if Fraction(*low) < Fraction(*high)]
        for step in steps_to(8):
            places = [place_of(step, mark) for mark in range(20)]
            for low, high in arcs:
                within = [mark for mark, where in enumerate(places) if arc(low, high)(where)]
                with self.subTest(step=step, low=low, high=high):
                    self.assertEqual(first_within(step, low, high), within[0] if within else None)
                    for count in (1, 2, 5, step[1], 20):
                        self.assertEqual(how_many(step, count, low, high), len([at for at in within if at < count]))

    def test_some_greater_ones(self):
        source = random.Random(9)
        for _ in range(60):
            step = random_step(source, source.randrange(1, 60))
            low, high = random_arc(source, source.choice((40, 300)))
            places = [place_of(step, mark) for mark in range(1000)]
            within = [mark for mark, where in enumerate(places) if arc(low, high)(where)]
            with self.subTest(step=step, low=low, high=high):
                self.assertEqual(how_many(step, 1000, low, high), len(within))
                if within:
                    self.assertEqual(first_within(step, low, high), within[0])
                    self.assertIs(type(first_within(step, low, high)), int)
                elif first_within(step, low, high) is not None:
                    self.assertGreaterEqual(first_within(step, low, high), 1000)

    def test_low_belongs_and_high_does_not(self):
        self.assertEqual(how_many((1, 4), 4, (1, 4), (1, 2)), 1)
        self.assertEqual(how_many((1, 4), 8, (1, 4), (1, 2)), 2)
        self.assertEqual([first_within((1, 4), (1, 4), (1, 2)), first_within((1, 4), (1, 5), (1, 4))], [1, None])
        self.assertEqual([first_within((3, 4), (1, 4), (1, 2)), first_within((3, 4), (13, 50), (1, 2))], [3, None])

    def test_from_0_and_to_1(self):
        for step in steps_to(9) + [(3 ** 60, 10 ** 59)]:
            for count in (1, 2, 9, 30, GREAT):
                self.assertEqual(how_many(step, count, (0, 1), (1, 1)), count)
            self.assertEqual(first_within(step, (0, 1), (1, 1)), 0)
            self.assertEqual(first_within(step, (0, 1), (1, GREAT)), 0)
            self.assertEqual(how_many(step, 1, (0, 1), (1, GREAT)), 1)
            self.assertEqual(how_many(step, 1, (1, GREAT), (1, 1)), 0)
        self.assertEqual(first_within((1, 10), (9, 10), (1, 1)), 9)
        self.assertEqual(first_within((1, 10), (91, 100), (1, 1)), None)
        self.assertEqual(first_within((0, 1), (1, GREAT), (1, 1)), None)
        self.assertEqual(how_many((0, 1), GREAT, (1, GREAT), (1, 1)), 0)


class Great(unittest.TestCase):

    def test_parts_of_the_rim_together(self):
        source = random.Random(10)
        for _ in range(60):
            step = random_step(source, source.randrange(1, 60))
            count = source.randrange(1, 10 ** source.randrange(1, 31))
            bottom = source.randrange(5, 10 ** source.randrange(1, 40) + 10)
            tops = sorted({0, bottom, *[source.randrange(bottom) for _ in range(4)]})
            ends = [pair(Fraction(top, bottom)) for top in tops]
            parts = [how_many(step, count, low, high) for low, high in zip(ends, ends[1:])]
            with self.subTest(step=step, count=count, ends=ends):
                self.assertEqual(sum(parts), count)
                self.assertGreaterEqual(min(parts), 0)
                self.assertEqual(how_many(step, count, ends[0], ends[2]), parts[0] + parts[1])

    def test_mark_by_mark_at_the_end(self):
        # Each mark more is one more where its place is in the arc.
        source = random.Random(11)
        for _ in range(20):
            step, (low, high) = random_step(source, 40), random_arc(source, 10 ** 6)
            count = source.randrange(GREAT // 10, GREAT - 9)
            for more in range(8):
                grown = how_many(step, count + more + 1, low, high) - how_many(step, count + more, low, high)
                self.assertEqual(grown, int(arc(low, high)(place_of(step, count + more))))

    def test_even_ones(self):
        self.assertEqual(how_many((1, GREAT), GREAT, (1, 4), (1, 2)), GREAT // 4)
        self.assertEqual(how_many((7, GREAT), GREAT, (1, 4), (1, 2)), GREAT // 4)
        self.assertEqual(how_many((GREAT - 1, GREAT), GREAT, (0, 1), (1, GREAT)), 1)
        self.assertEqual(how_many((1, 2), GREAT, (0, 1), (1, 2)), GREAT // 2)
        self.assertEqual(how_many((1, 2), GREAT - 1, (1, 2), (1, 1)), GREAT // 2 - 1)
        self.assertEqual(how_many((1, 3), GREAT, (1, 3), (2, 3)), GREAT // 3)
        self.assertEqual(how_many((1, 3), GREAT, (0, 1), (1, 3)), GREAT // 3 + 1)

    def test_first_lies_within_and_none_ahead(self):
        source = random.Random(12)
        for _ in range(200):
            step = random_step(source, source.randrange(2, 60))
            bottom = source.randrange(2, 10 ** source.randrange(1, 31))
            low = source.randrange(bottom)
            ends = pair(Fraction(low, bottom)), pair(Fraction(min(bottom, low + source.randrange(1, 4)), bottom))
            told = first_within(step, *ends)
            with self.subTest(step=step, ends=ends):
                if told is None:
                    # No place at all: no top over the bottom of the step lies there.
                    self.assertGreaterEqual(-(-ends[0][0] * step[1] // ends[0][1]) * ends[1][1], ends[1][0] * step[1])
                    continue
                self.assertTrue(arc(*ends)(place_of(step, told)))
                self.assertTrue(0 <= told < step[1])
                if 0 < told <= GREAT:
                    self.assertEqual(how_many(step, told, *ends), 0)

    def test_single_places(self):
        source = random.Random(13)
        for figures in (3, 9, 20, 30, 59):
            for _ in range(20):
                top, bottom = step = random_step(source, figures)
                at = source.randrange(bottom)
                low, high = pair(Fraction(at, bottom)), pair(Fraction(at + 1, bottom))
                self.assertEqual(first_within(step, low, high), at * pow(top, -1, bottom) % bottom if bottom > 1 else 0)

    def test_near_0(self):
        source = random.Random(14)
        for figures in (4, 15, 30, 50):
            for _ in range(20):
                top, bottom = step = random_step(source, figures)
                if top == 0:
                    continue
                low, high = neighbours(top, bottom)
                # The mark with the place 1 over the bottom, and the one as far ahead of 0.
                self.assertEqual(first_within(step, (1, bottom), pair(Fraction(2, bottom))), low[1])
                self.assertEqual(first_within(step, (bottom - 1, bottom), (1, 1)), high[1])


if __name__ == "__main__":
    unittest.main()
