"""Several sightings: lot_of_all and striking of rimorders.sightings."""

import random
import unittest
from fractions import Fraction
from itertools import combinations

from drawn import small_sighting
from plain import belongs, fractions_to, is_met, pair, pieces_from, with_middles
from rimorders.lots import Lot
from rimorders.sightings import lot_of, lot_of_all, striking

# Enough for marks to 5 and arcs with the ends 0, 1/2 and 1.
PLACES = with_middles(fractions_to(10))
QUARREL = ("turn", 0, 1, 2), ("turn", 0, 2, 1)


def places_of(sighting):
    return {where for where in PLACES if is_met(sighting, pair(where))}


def searched_striking(sightings):
    """Of all sets, those without which the others go together, and no lesser set of them does."""
    right = [places_of(sighting) for sighting in sightings]
    found = []
    indexes = range(len(sightings))
    for size in range(len(sightings) + 1):
        for chosen in combinations(indexes, size):
            left = set(PLACES).intersection(*[right[at] for at in indexes if at not in chosen])
            if left and not any(set(other) <= set(chosen) for other in found):
                found.append(chosen)
    return tuple(found)


class All(unittest.TestCase):

    def test_none(self):
        self.assertEqual(lot_of_all(()).pieces, (((0, 1), (1, 1), True, False),))

    def test_one(self):
        for sighting in (("turn", 0, 1, 2), ("on", 2, 5), ("within", 7, 3, (1, 3), (1, 1)), ("next", 41, 40, 0)):
            self.assertEqual(lot_of_all((sighting,)), lot_of(sighting))
            self.assertEqual(lot_of_all((sighting,) * 20), lot_of(sighting))

    def test_several(self):
        source = random.Random(30)
        for _ in range(150):
            sightings = tuple([small_sighting(source) for _ in range(source.randrange(2, 8))])
            right = [places_of(sighting) for sighting in sightings]
            told = lot_of_all(sightings)
            self.assertIs(type(told), Lot)
            self.assertEqual(told.pieces, pieces_from(PLACES, lambda at: all(at in one for one in right)), sightings)

    def test_of_one_step(self):
        # What is met for a step goes together for it.
        source = random.Random(31)
        for step in ((3, 8), (1, 3), (21, 55), (17, 41), (0, 1)):
            sightings = []
            while len(sightings) < 20:
                sighting = small_sighting(source)
                if is_met(sighting, step):
                    sightings.append(sighting)
            self.assertTrue(belongs(lot_of_all(tuple(sightings)).pieces, Fraction(*step)))

    def test_quarrelling_ones(self):
        self.assertEqual(lot_of_all(QUARREL), Lot(()))
        self.assertEqual(lot_of_all((("on", 0, 2), ("on", 0, 3), ("turn", 0, 1, 2))), Lot(()))
        self.assertEqual(lot_of_all((("on", 0, 2), ("on", 0, 3))).text, "[0/1]")

    def test_order_does_not_matter(self):
        sightings = ("turn", 0, 1, 2), ("turn", 0, 3, 1), ("next", 9, 0, 8), ("within", 0, 4, (1, 2), (1, 1))
        told = lot_of_all(sightings)
        self.assertEqual(told.text, "(3/8,2/5)")
        self.assertEqual(lot_of_all(sightings[::-1]), told)


class Striking(unittest.TestCase):

    def test_against_all_sets(self):
        source = random.Random(32)
        sizes = []
        for _ in range(120):
            sightings = tuple([small_sighting(source) for _ in range(source.randrange(1, 9))])
            told = striking(sightings)
            self.assertEqual(told, searched_striking(sightings), sightings)
            sizes += [len(chosen) for chosen in told]
        # Sets of all kinds were among them.
        self.assertLessEqual({0, 1, 2, 3}, set(sizes))

    def test_nothing_quarrels(self):
        self.assertEqual(striking(()), ((),))
        self.assertEqual(striking((("turn", 0, 1, 2),)), ((),))
        self.assertEqual(striking((("turn", 0, 1, 2), ("turn", 0, 3, 1))), ((),))
        self.assertEqual(striking((("on", 0, 40),) * 8), ((),))

    def test_sets_of_unlike_lengths(self):
        # One stands against three that go together.
        self.assertEqual(striking((QUARREL[1], QUARREL[0], QUARREL[0], QUARREL[0])), ((0,), (1, 2, 3)))
        self.assertEqual(striking((QUARREL[0], QUARREL[0], QUARREL[1], QUARREL[1])), ((0, 1), (2, 3)))
        self.assertEqual(striking((QUARREL[0], QUARREL[1]) * 4), ((0, 2, 4, 6), (1, 3, 5, 7)))
        self.assertEqual(striking((("turn", 0, 1, 2), ("on", 0, 1), ("turn", 0, 2, 1))), ((0, 1), (0, 2), (1, 2)))

    def test_kinds_of_values(self):
        told = striking(QUARREL)
        self.assertEqual([type(told), {type(chosen) for chosen in told}, {type(chosen[0]) for chosen in told}],
                         [tuple, {tuple}, {int}])

    def test_far_marks(self):
        # Behind 20 comes 21 a little below 1/40, at 1/40 and a little above it; the others ask for one of these each.
        self.assertEqual(striking((("next", 41, 0, 40), ("next", 41, 40, 0), ("next", 41, 20, 21), ("on", 0, 40))),
                         ((0, 1), (0, 3), (1, 3)))


if __name__ == "__main__":
    unittest.main()
