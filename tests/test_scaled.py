"""Lots of each n-th mark alone, and lots the other way round: rimorders.scaled."""

import random
import unittest
from fractions import Fraction

from drawn import ends_of, small_lot, steps_tried
from plain import are_pieces, belongs, fractions_to, order_of, pair, pieces_from, place_of, steps_to, with_middles
from rimorders.lots import Lot, either, others
from rimorders.scaled import mirror, thinned, thinned_from
from rimorders.steps import mirrored

GREAT = 10 ** 30
NONE = Lot(())
WHOLE = others(NONE)
NUMBERS = (1, 2, 3, 4, 5, 7, 12, 39, 40)


def whole_part_less(where):
    return where - where.__floor__()


def points_with(points):
    return with_middles(sorted({Fraction(0), Fraction(1), *points}))


class Examples(unittest.TestCase):

    def test_example(self):
        third, wide = Lot((((1, 3), (2, 5), True, False),)), Lot.read("[1/4] (1/3,1/2)")
        self.assertEqual(
            [thinned(third, 3).text, thinned(wide, 2).text, thinned_from(third, 2).text, mirror(third).text,
             mirror(Lot.read("[0/1,1/3)")).text, thinned(third, 1) == third],
            ['[0/1,1/5)', '[1/2] (2/3,1/1)', '[1/6,1/5) [2/3,7/10)', '(3/5,2/3]', '[0/1] (2/3,1/1)', True],
        )

    def test_by_name(self):
        third = Lot((((1, 3), (2, 5), True, False),))
        self.assertEqual(thinned(number=3, lot=third).text, "[0/1,1/5)")
        self.assertEqual(thinned_from(number=2, lot=third).text, "[1/6,1/5) [2/3,7/10)")
        self.assertEqual(mirror(lot=third).text, "(3/5,2/3]")


class Scaled(unittest.TestCase):

    def check_pieces(self, told, needed, *about):
        self.assertIs(type(told), Lot)
        self.assertTrue(are_pieces(told.pieces), about)
        self.assertEqual(told.pieces, needed, about)

    def check(self, lot, number):
        # The steps that a place may come from, and those that it may lead to, one by one.
        ends = ends_of(lot)
        places = points_with([whole_part_less(end * number) for end in ends])
        needed = pieces_from(places, lambda where: any(
            belongs(lot.pieces, (where + turn) / number) for turn in range(number)))
        self.check_pieces(thinned(lot, number), needed, lot.text, number)
        places = points_with([(end + turn) / number for end in [Fraction(0), *ends] for turn in range(number)])
        needed = pieces_from(places, lambda where: belongs(lot.pieces, place_of(pair(where), number)))
        self.check_pieces(thinned_from(lot, number), needed, lot.text, number)

    def test_small_lots(self):
        source = random.Random(60)
        for _ in range(60):
            lot = small_lot(source)
            for number in (1, 2, 3, source.randrange(4, 10)):
                self.check(lot, number)

    def test_each_number(self):
        source = random.Random(61)
        for number in range(1, 41):
            self.check(small_lot(source), number)

    def test_one_by_one(self):
        # What the marks 0, n, 2 * n, .. of a step make is what the first marks of the thinned step make.
        source = random.Random(62)
        for _ in range(40):
            lot, number = small_lot(source), source.randrange(1, 8)
            told = thinned(lot, number)
            for step in steps_tried(lot, fractions_to(4)):
                seen = pair(place_of(step, number))
                self.assertTrue(belongs(told.pieces, Fraction(*seen)), (lot.text, number, step))
                self.assertEqual([place_of(seen, mark) for mark in range(4)],
                                 [place_of(step, mark * number) for mark in range(4)])
            for step in steps_to(12):
                self.assertIs(belongs(thinned_from(lot, number).pieces, Fraction(*step)),
                              belongs(lot.pieces, place_of(step, number)), (lot.text, number, step))

    def test_all_ends(self):
        points = fractions_to(4)
        for low in points:
            for high in points:
                for first in (True, False):
                    for last in (True, False):
                        pieces = ((pair(low), pair(high), first, last),)
                        if are_pieces(pieces):
                            for number in (1, 2, 3, 4):
                                self.check(Lot(pieces), number)

    def test_none_and_all(self):
        for number in NUMBERS:
            self.assertEqual([thinned(NONE, number), thinned_from(NONE, number)], [NONE, NONE])
            self.assertEqual([thinned(WHOLE, number), thinned_from(WHOLE, number)], [WHOLE, WHOLE])

    def test_number_1(self):
        source = random.Random(63)
        for _ in range(50):
            lot = small_lot(source)
            self.assertEqual([thinned(lot, 1), thinned_from(lot, 1)], [lot, lot])

    def test_back_and_forth(self):
        source = random.Random(64)
        for _ in range(50):
            lot, number = small_lot(source), source.randrange(1, 41)
            self.assertEqual(thinned(thinned_from(lot, number), number), lot)
            self.assertEqual(either(lot, thinned_from(thinned(lot, number), number)), thinned_from(thinned(lot, number), number))

    def test_round_the_rim(self):
        for text, number, told in (
            ("[1/3,2/3)", 2, "[0/1,1/3) [2/3,1/1)"), ("(1/3,2/3)", 2, "[0/1,1/3) (2/3,1/1)"), ("[1/3,1/2)", 2, "[2/3,1/1)"),
            ("[1/3,1/2]", 2, "[0/1] [2/3,1/1)"), ("(1/2,2/3]", 2, "(0/1,1/3]"), ("[1/2,2/3]", 2, "[0/1,1/3]"),
            ("[1/3,1/2) (1/2,2/3)", 2, "(0/1,1/3) [2/3,1/1)"), ("(1/4,3/4)", 2, "[0/1,1/2) (1/2,1/1)"),
            ("[1/4,3/4)", 2, "[0/1,1/1)"), ("(0/1,1/2)", 2, "(0/1,1/1)"), ("(0/1,1/2]", 2, "[0/1,1/1)"),
            ("(1/4,4/5)", 2, "[0/1,1/1)"), ("[0/1] [1/2]", 2, "[0/1]"), ("(0/1,1/4) (1/2,3/4)", 2, "(0/1,1/2)"),
            ("(0/1,1/4) [3/4]", 2, "(0/1,1/2]"), ("[1/40]", 40, "[0/1]"), ("[1/41]", 40, "[40/41]"), ("[20/41]", 40, "[21/41]"),
        ):
            self.assertEqual(thinned(Lot.read(text), number).text, told, text)

    def test_ends_that_meet(self):
        for text, number, told in (
            ("[0/1,1/3) (2/3,1/1)", 2, "[0/1,1/6) (1/3,2/3) (5/6,1/1)"), ("(0/1,1/1)", 2, "(0/1,1/2) (1/2,1/1)"),
            ("(2/3,1/1)", 2, "(1/3,1/2) (5/6,1/1)"), ("[0/1,1/3)", 2, "[0/1,1/6) [1/2,2/3)"), ("[0/1]", 3, "[0/1] [1/3] [2/3]"),
            ("(0/1,1/3) (2/3,1/1)", 2, "(0/1,1/6) (1/3,1/2) (1/2,2/3) (5/6,1/1)"),
            ("[0/1] (2/3,1/1)", 2, "[0/1] (1/3,1/2] (5/6,1/1)"),
        ):
            self.assertEqual(thinned_from(Lot.read(text), number).text, told, text)

    def test_great_ends(self):
        lot = Lot((((1, GREAT), (1, GREAT - 1), False, True),))
        self.assertEqual(thinned(lot, 3).pieces, (((3, GREAT), (1, (GREAT - 1) // 3), False, True),))
        self.assertEqual(thinned_from(lot, 2).pieces, (
            ((1, 2 * GREAT), (1, 2 * GREAT - 2), False, True), ((GREAT + 1, 2 * GREAT), (GREAT // 2, GREAT - 1), False, True)))


class Mirror(unittest.TestCase):

    def test_small_lots(self):
        source = random.Random(65)
        for _ in range(200):
            lot = small_lot(source)
            told = mirror(lot)
            places = points_with([1 - end for end in ends_of(lot)])
            needed = pieces_from(places, lambda where: belongs(lot.pieces, Fraction(*mirrored(pair(where)))))
            self.assertIs(type(told), Lot)
            self.assertEqual(told.pieces, needed, lot.text)
            self.assertTrue(are_pieces(told.pieces), lot.text)

    def test_other_way_round(self):
        source = random.Random(66)
        for _ in range(30):
            lot = small_lot(source)
            told = mirror(lot)
            for step in steps_tried(lot, fractions_to(4)):
                turned = mirrored(step)
                self.assertTrue(belongs(told.pieces, Fraction(*turned)))
                row = order_of(step, 6)
                self.assertEqual(order_of(turned, 6), row[:1] + row[:0:-1])

    def test_twice(self):
        source = random.Random(67)
        for lot in [NONE, WHOLE, *[small_lot(source) for _ in range(200)]]:
            self.assertEqual(mirror(mirror(lot)), lot)

    def test_0_within_and_not(self):
        for text, told in (
            ("none", "none"), ("[0/1]", "[0/1]"), ("[0/1,1/1)", "[0/1,1/1)"), ("(0/1,1/1)", "(0/1,1/1)"), ("[1/2]", "[1/2]"),
            ("[0/1,1/3)", "[0/1] (2/3,1/1)"), ("(0/1,1/3)", "(2/3,1/1)"), ("(0/1,1/3]", "[2/3,1/1)"), ("(2/3,1/1)", "(0/1,1/3)"),
            ("[2/3,1/1)", "(0/1,1/3]"), ("[0/1] [2/3,1/1)", "[0/1,1/3]"), ("[0/1,1/3] (2/3,1/1)", "[0/1,1/3) [2/3,1/1)"),
            ("[0/1] (1/5,1/4] [2/7]", "[0/1] [5/7] [3/4,4/5)"), ("[0/1,1/2) (1/2,1/1)", "[0/1,1/2) (1/2,1/1)"),
        ):
            self.assertEqual(mirror(Lot.read(text)).text, told, text)

    def test_great_ends(self):
        lot = Lot((((1, GREAT), (1, GREAT - 1), False, True),))
        self.assertEqual(mirror(lot).pieces, (((GREAT - 2, GREAT - 1), (GREAT - 1, GREAT), True, False),))


if __name__ == "__main__":
    unittest.main()
