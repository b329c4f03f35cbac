"""The four kinds of sightings: lot_of and is_right of rimorders.sightings."""

import random
import unittest
from fractions import Fraction

from drawn import changes, random_arc, random_marks, random_sighting
from plain import are_pieces, fractions_to, is_met, pair, pieces_from, steps_to, with_middles
from rimorders.lots import Lot, has
from rimorders.sightings import is_right, lot_of, lot_of_all, striking

GREAT = 10 ** 30


class Examples(unittest.TestCase):

    def test_example(self):
        self.assertEqual(
            [lot_of(("turn", 0, 1, 2)).text, lot_of(("on", 2, 5)).text, lot_of(("within", 0, 1, (1, 3), (2, 5))).text,
             lot_of(("within", 0, 2, (0, 1), (1, 2))).text, lot_of(("next", 3, 0, 2)).text],
            ['(0/1,1/2)', '[0/1] [1/3] [2/3]', '(1/3,2/5)', '(0/1,1/4) (1/2,3/4)', '(1/2,1/1)'],
        )
        self.assertEqual(
            [lot_of_all((("turn", 0, 1, 2), ("turn", 0, 3, 1))).text, lot_of_all(()).text,
             is_right(("turn", 0, 3, 1), (3, 8)), striking((("turn", 0, 1, 2), ("turn", 0, 2, 1), ("on", 0, 3)))],
            ['(1/3,1/2)', '[0/1,1/1)', True, ((0,), (1,))],
        )

    def test_by_name(self):
        self.assertEqual(lot_of(sighting=("on", 2, 5)).text, "[0/1] [1/3] [2/3]")
        self.assertEqual(lot_of_all(sightings=(("turn", 0, 1, 2), ("turn", 0, 3, 1))).text, "(1/3,1/2)")
        self.assertIs(is_right(sighting=("turn", 0, 3, 1), step=(3, 8)), True)
        self.assertIs(is_right(step=(1, 4), sighting=("turn", 0, 3, 1)), False)
        self.assertEqual(striking(sightings=(("turn", 0, 1, 2), ("turn", 0, 2, 1))), ((0,), (1,)))


class Lots(unittest.TestCase):

    def check(self, sighting):
        places = with_middles(changes(sighting))
        told = lot_of(sighting)
        self.assertIs(type(told), Lot)
        self.assertTrue(are_pieces(told.pieces), sighting)
        self.assertEqual(told.pieces, pieces_from(places, lambda where: is_met(sighting, pair(where))), sighting)

    def test_turns_of_first_marks(self):
        marks = range(6)
        for start in marks:
            for one in marks:
                for other in marks:
                    if len({start, one, other}) == 3:
                        self.check(("turn", start, one, other))

    def test_turns_of_all_distances(self):
        source = random.Random(24)
        for way in range(1, 41):
            start, one, other = 0, way, source.randrange(1, 41)
            if other != one:
                self.check(("turn", start, one, other))
                self.check(("turn", other, start, one))
        for _ in range(40):
            self.check(("turn", *random_marks(source, 3)))
        for marks in ((0, 40, 20), (40, 0, 20), (20, 40, 0), (0, 39, 40), (40, 1, 0), (40, 39, 38), (0, 1, 40)):
            self.check(("turn", *marks))

    def test_on_of_all_distances(self):
        for one in range(41):
            for other in (0, 1, 20, 39, 40):
                if one != other:
                    self.check(("on", one, other))
                    self.check(("on", other, one))
                    self.assertEqual(len(lot_of(("on", one, other)).pieces), abs(one - other))

    def test_within_of_all_distances(self):
        source = random.Random(25)
        for way in range(1, 41):
            start = source.randrange(41 - way)
            self.check(("within", start, start + way, *random_arc(source)))
            self.check(("within", start + way, start, *random_arc(source)))

    def test_within_with_small_ends(self):
        ends = [pair(end) for end in fractions_to(4)]
        for one, other in ((0, 1), (1, 0), (2, 5), (5, 2), (0, 2), (40, 38)):
            for low in ends:
                for high in ends:
                    if Fraction(*low) < Fraction(*high):
                        self.check(("within", one, other, low, high))

    def test_ends_0_and_1_of_within(self):
        for one, other in ((0, 1), (1, 0), (0, 7), (40, 3)):
            for low, high in (((0, 1), (1, 1)), ((0, 1), (1, 60)), ((59, 60), (1, 1)), ((0, 1), (59, 60)), ((1, 60), (1, 1))):
                self.check(("within", one, other, low, high))
        self.assertEqual(lot_of(("within", 0, 1, (0, 1), (1, 1))).text, "(0/1,1/1)")
        self.assertEqual(lot_of(("within", 1, 0, (0, 1), (1, 1))).text, "(0/1,1/1)")
        self.assertEqual(lot_of(("within", 3, 5, (0, 1), (1, 1))).text, "(0/1,1/2) (1/2,1/1)")
        self.assertEqual(lot_of(("within", 1, 0, (1, 3), (2, 5))).text, "(3/5,2/3)")

    def test_next_of_few_marks(self):
        for count in range(2, 9):
            for one in range(count):
                for other in range(count):
                    if one != other:
                        self.check(("next", count, one, other))

    def test_next_of_more_marks(self):
        source = random.Random(26)
        for count in range(9, 42):
            for _ in range(3):
                self.check(("next", count, *random_marks(source, 2, count - 1)))
        for one, other in ((0, 40), (40, 0), (0, 1), (1, 0), (20, 21), (39, 40), (0, 20), (13, 26)):
            self.check(("next", 41, one, other))

    def test_next_beside_marks_that_share_a_place(self):
        # For the step 1/2 the marks 0, 2 stand at one place, so that none is the only one behind 1.
        self.assertEqual([lot_of(("next", 3, 1, mark)).text for mark in (0, 2)], ["(1/2,1/1)", "(0/1,1/2)"])
        self.assertEqual(lot_of(("next", 3, 0, 1)).text, "(0/1,1/2]")
        self.assertEqual(lot_of(("next", 3, 2, 1)).text, "[1/2,1/1)")
        self.assertEqual(lot_of(("next", 2, 0, 1)).text, "(0/1,1/1)")
        self.assertEqual(is_right(("next", 4, 0, 1), (1, 3)), True)
        self.assertEqual(is_right(("next", 4, 3, 1), (1, 3)), True)
        self.assertEqual([is_right(("next", 4, 2, mark), (1, 3)) for mark in (0, 1, 3)], [False] * 3)
        self.assertEqual([is_right(("next", 4, 0, mark), (0, 1)) for mark in (1, 2, 3)], [False] * 3)


class Right(unittest.TestCase):

    def test_beside_lots(self):
        source = random.Random(27)
        steps = steps_to(20) + [(29, 59), (1, 40), (39, 40), (19, 41)]
        for _ in range(80):
            sighting = random_sighting(source)
            lot = lot_of(sighting)
            for step in source.sample(steps, 40):
                told = is_right(sighting, step)
                self.assertIs(told, is_met(sighting, step), (sighting, step))
                self.assertIs(told, has(lot, step), (sighting, step))

    def test_ends_of_pieces(self):
        source = random.Random(28)
        for _ in range(80):
            sighting = random_sighting(source)
            for low, high, first, last in lot_of(sighting).pieces:
                self.assertIs(is_right(sighting, low), first)
                if high != (1, 1):
                    self.assertIs(is_right(sighting, high), last)

    def test_great_steps(self):
        source = random.Random(29)
        for _ in range(300):
            sighting = random_sighting(source)
            bottom = source.randrange(10 ** 29, 10 ** 30) ** source.choice((1, 2))
            near = source.choice(steps_to(12))
            for where in (Fraction(source.randrange(bottom), bottom), Fraction(*near) + Fraction(1, bottom * near[1])):
                step = pair(where)
                self.assertIs(is_right(sighting, step), is_met(sighting, step), (sighting, step))
                self.assertIs(has(lot_of(sighting), step), is_met(sighting, step), (sighting, step))

    def test_next_to_0(self):
        for step, told in (((1, GREAT), [True, False]), ((GREAT - 1, GREAT), [False, True]), ((0, 1), [False, False])):
            self.assertEqual([is_right(("turn", 0, 1, 40), step), is_right(("turn", 0, 40, 1), step)], told)
            self.assertEqual([is_right(("next", 41, 7, 8), step), is_right(("next", 41, 8, 7), step)], told)
            self.assertIs(is_right(("on", 0, 40), step), step == (0, 1))
            self.assertIs(is_right(("within", 0, 40, (0, 1), (1, 60)), step), told[0])
            self.assertIs(is_right(("within", 40, 0, (0, 1), (1, 60)), step), told[1])


if __name__ == "__main__":
    unittest.main()
