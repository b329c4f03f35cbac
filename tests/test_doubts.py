"""Sightings of which a few may be wrong: rimorders.doubts."""

import random
import unittest

from drawn import changes, random_sighting, small_sighting, told_by
from plain import are_pieces, fractions_to, is_met, pair, pieces_from, with_middles
from rimorders.doubts import fewest_wrong, lot_with, surely_right, surely_wrong
from rimorders.errors import NoStep
from rimorders.lots import Lot, others
from rimorders.sightings import lot_of, lot_of_all, striking

WHOLE = others(Lot(()))
DOUBTED = ("turn", 0, 1, 2), ("turn", 0, 2, 1), ("on", 0, 3), ("within", 0, 1, (1, 4), (3, 4))
SMALL = with_middles(fractions_to(10))


def places_of(sightings):
    """One place in each stretch where none of these changes, and each point where one may."""
    return with_middles(sorted({point for sighting in sightings for point in changes(sighting)} | {0, 1}))


class Examples(unittest.TestCase):

    def test_example(self):
        self.assertEqual(
            [fewest_wrong(DOUBTED), lot_with(DOUBTED, 1).text, lot_with(DOUBTED, 0).text, surely_right(DOUBTED, 1),
             surely_wrong(DOUBTED, 1), lot_with(DOUBTED, 4).text],
            [1, '[1/3] [2/3]', 'none', (2, 3), (), '[0/1,1/1)'],
        )

    def test_by_name(self):
        self.assertEqual(fewest_wrong(sightings=DOUBTED), 1)
        self.assertEqual(lot_with(sightings=DOUBTED, most=1).text, "[1/3] [2/3]")
        self.assertEqual(surely_right(most=1, sightings=DOUBTED), (2, 3))
        self.assertEqual(surely_wrong(most=1, sightings=DOUBTED), ())


class StepByStep(unittest.TestCase):

    def check(self, sightings, places):
        """For each number; returns what is told as surely wrong and surely right for the least one with steps."""
        right = [[is_met(sighting, pair(where)) for sighting in sightings] for where in places]
        wrong = {where: row.count(False) for where, row in zip(places, right)}
        self.assertEqual(fewest_wrong(sightings), min(wrong.values()))
        self.assertIs(type(fewest_wrong(sightings)), int)
        found = None
        for most in range(9):
            told = lot_with(sightings, most)
            self.assertIs(type(told), Lot)
            self.assertTrue(are_pieces(told.pieces))
            self.assertEqual(told.pieces, pieces_from(places, lambda where: wrong[where] <= most), (sightings, most))
            left = [row for row in right if row.count(False) <= most]
            if not left:
                self.check_no_step(sightings, most)
                continue
            indexes = range(len(sightings))
            never = tuple([at for at in indexes if not any(row[at] for row in left)])
            always = tuple([at for at in indexes if all(row[at] for row in left)])
            self.assertEqual(surely_wrong(sightings, most), never, (sightings, most))
            self.assertEqual(surely_right(sightings, most), always, (sightings, most))
            found = found or (len(never), len(always))
        return found

    def check_no_step(self, sightings, most):
        for call in (surely_wrong, surely_right):
            with self.assertRaises(NoStep):
                call(sightings, most)

    def test_small_ones(self):
        source = random.Random(70)
        found = []
        for _ in range(120):
            sightings = tuple([small_sighting(source) for _ in range(source.randrange(1, 9))])
            found.append(self.check(sightings, SMALL))
        self.assertGreater(len([never for never, _ in found if never]), 30)
        self.assertGreater(len([always for _, always in found if always]), 30)

    def test_all_sightings(self):
        source = random.Random(71)
        for many in (1, 2, 3, 4, 5):
            sightings = tuple([random_sighting(source, 12) for _ in range(many)])
            self.check(sightings, places_of(sightings))

    def test_a_few_wrong_ones(self):
        # Most are told by one step, some by another one.
        source = random.Random(72)
        for wrong in (0, 1, 2, 3):
            sightings = [told_by(source, (3, 8), small_sighting) for _ in range(8 - wrong)]
            sightings += [told_by(source, (9, 10), small_sighting) for _ in range(wrong)]
            source.shuffle(sightings)
            self.check(tuple(sightings), SMALL)
            self.assertLessEqual(fewest_wrong(tuple(sightings)), wrong)

    def test_no_sightings(self):
        self.assertEqual(fewest_wrong(()), 0)
        for most in range(9):
            self.assertEqual(lot_with((), most), WHOLE)
            self.assertEqual([surely_wrong((), most), surely_right((), most)], [(), ()])

    def test_eight(self):
        quarrel = (("turn", 0, 1, 2), ("turn", 0, 2, 1)) * 4
        self.check(quarrel, SMALL)
        self.assertEqual([len(lot_with(quarrel, most).pieces) > 0 for most in range(9)], [False] * 4 + [True] * 5)
        self.assertEqual([fewest_wrong(quarrel), surely_wrong(quarrel, 4), surely_right(quarrel, 4)], [4, (), ()])
        alike = (("on", 0, 40),) * 8
        self.assertEqual([lot_with(alike, most) for most in range(9)], [lot_of(alike[0])] * 8 + [WHOLE])
        self.assertEqual([surely_right(alike, 7), surely_right(alike, 8), surely_wrong(alike, 8)], [tuple(range(8)), (), ()])

    def test_most_beyond_their_number(self):
        self.assertEqual([lot_with(DOUBTED, most) for most in range(4, 9)], [WHOLE] * 5)
        self.assertEqual(lot_with((("on", 0, 3),), 1), WHOLE)

    def test_surely_wrong(self):
        told = ("turn", 0, 1, 2), ("turn", 0, 1, 2), ("turn", 0, 2, 1), ("turn", 0, 3, 1)
        self.assertEqual([surely_wrong(told, 1), surely_right(told, 1)], [(2,), (0, 1, 3)])
        self.assertEqual([surely_wrong(told, 2), surely_right(told, 2)], [(), ()])
        self.check_no_step(told, 0)


class BesideOthers(unittest.TestCase):

    def test_none_wrong(self):
        source = random.Random(73)
        for _ in range(80):
            sightings = tuple([small_sighting(source) for _ in range(source.randrange(9))])
            self.assertEqual(lot_with(sightings, 0), lot_of_all(sightings))

    def test_fewest(self):
        source = random.Random(74)
        found = set()
        for _ in range(100):
            sightings = tuple([small_sighting(source) for _ in range(source.randrange(9))])
            fewest = fewest_wrong(sightings)
            self.assertEqual(fewest, len(striking(sightings)[0]))
            self.assertEqual([len(lot_with(sightings, most).pieces) > 0 for most in range(9)],
                             [most >= fewest for most in range(9)])
            found.add(fewest)
        self.assertLessEqual({0, 1, 2, 3}, found)


if __name__ == "__main__":
    unittest.main()
