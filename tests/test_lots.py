"""Lots: their pieces, what belongs to them, and their simplest steps: rimorders.lots without texts."""

import random
import unittest
from fractions import Fraction

from drawn import PLACES, lot_of_choice, random_choice
from plain import are_pieces, belongs, fractions_to, moved, neighbours, pair, pieces_from, steps_to
from rimorders.errors import InvalidPieces, NoStep
from rimorders.lots import Lot, both, either, has, inside, others, simplest

GREAT = 10 ** 30
WHOLE = (((0, 1), (1, 1), True, False),)


class Examples(unittest.TestCase):

    def test_example(self):
        third, wide = Lot((((1, 3), (2, 5), True, False),)), Lot.read("[1/4] (1/3,1/2)")
        self.assertEqual(
            [third.text, wide.width, has(third, (1, 3)), has(wide, (1, 3)), both(third, wide).text,
             either(third, wide).text, others(wide).text, inside(third, wide), repr(wide)],
            ['[1/3,2/5)', (1, 6), True, False, '(1/3,2/5)', '[1/4] [1/3,1/2)', '[0/1,1/4) (1/4,1/3] [1/2,1/1)', False,
             'Lot of 2 pieces'],
        )
        self.assertEqual(
            [simplest(wide), simplest(third), simplest(both(third, wide)), Lot(()).text, others(Lot(())).text],
            [(1, 4), (1, 3), (3, 8), 'none', '[0/1,1/1)'],
        )
        with self.assertRaises(InvalidPieces) as held:
            Lot((((1, 3), (2, 5), True, False), ((2, 5), (1, 2), True, False)))
        self.assertEqual(held.exception.index, 1)

    def test_by_name(self):
        lot, mate = Lot(pieces=(((1, 3), (2, 5), True, False),)), Lot.read(text="[1/4] (1/3,1/2)")
        self.assertEqual(lot.text, "[1/3,2/5)")
        self.assertIs(has(lot=lot, step=(1, 3)), True)
        self.assertIs(has(step=(2, 5), lot=lot), False)
        self.assertIs(inside(lot=lot, mate=mate), False)
        self.assertIs(inside(mate=lot, lot=Lot.read("(1/3,2/5)")), True)
        self.assertEqual(both(lot=lot, mate=mate).text, "(1/3,2/5)")
        self.assertEqual(both(mate=lot, lot=mate).text, "(1/3,2/5)")
        self.assertEqual(either(mate=lot, lot=mate).text, "[1/4] [1/3,1/2)")
        self.assertEqual(others(lot=lot).text, "[0/1,1/3) [2/5,1/1)")
        self.assertEqual(simplest(lot=lot), (1, 3))


class Objects(unittest.TestCase):

    def test_pieces_as_they_were_passed(self):
        source = random.Random(15)
        for _ in range(100):
            pieces = pieces_from(PLACES, random_choice(source).get)
            lot = Lot(pieces)
            self.assertEqual(lot.pieces, pieces)
            self.assertTrue(are_pieces(lot.pieces))
            self.assertEqual(Lot(lot.pieces), lot)

    def test_width(self):
        self.assertEqual([Lot(()).width, Lot(WHOLE).width, Lot((((1, 3), (1, 3), True, True),)).width],
                         [(0, 1), (1, 1), (0, 1)])
        source = random.Random(16)
        for _ in range(100):
            lot = lot_of_choice(random_choice(source))
            told = sum([Fraction(*high) - Fraction(*low) for low, high, _, _ in lot.pieces], Fraction(0))
            self.assertEqual(lot.width, pair(told))
            self.assertEqual({type(part) for part in lot.width}, {int})
        self.assertEqual(Lot((((1, GREAT), (1, GREAT - 1), True, True),)).width, (1, GREAT * (GREAT - 1)))

    def test_equal_if_the_pieces_are(self):
        source = random.Random(17)
        lots = [Lot(()), Lot(WHOLE), *[lot_of_choice(random_choice(source)) for _ in range(30)]]
        lots += [Lot((((1, 3), (2, 5), first, last),)) for first in (True, False) for last in (True, False)]
        for lot in lots:
            self.assertTrue(lot == lot and not lot != lot)
            for other in lots:
                self.assertIs(lot == other, lot.pieces == other.pieces)
                self.assertIs(lot != other, lot.pieces != other.pieces)
                self.assertIs(lot == Lot(tuple(list(other.pieces))), lot.pieces == other.pieces)

    def test_unlike_objects_of_other_classes(self):
        class Pieces:
            pieces = _pieces = ()

        for lot in (Lot(()), Lot(WHOLE)):
            for other in (None, True, False, 0, 1, "", "none", lot.text, b"", (), lot.pieces, [], [lot], {}, object(), Lot,
                          int, Pieces(), ValueError(), (lot,), GREAT):
                self.assertIs(lot == other, False)
                self.assertIs(lot != other, True)
                self.assertIs(other == lot, False)
                self.assertIs(other != lot, True)

    def test_true(self):
        self.assertTrue(Lot(()))
        self.assertTrue(Lot(WHOLE))

    def test_lots_do_not_change(self):
        lot, mate = Lot.read("[1/4] (1/3,1/2)"), Lot.read("[1/3,2/5]")
        for call in (both, either, inside):
            call(lot, mate)
        others(lot), simplest(lot), has(lot, (1, 3)), lot.text, lot.width, str(lot), repr(lot)
        self.assertEqual([lot.text, mate.text], ["[1/4] (1/3,1/2)", "[1/3,2/5]"])
        for name in ("pieces", "text", "width"):
            with self.assertRaises(AttributeError):
                setattr(lot, name, ())


class StepByStep(unittest.TestCase):

    def test_has(self):
        source = random.Random(18)
        for _ in range(60):
            chosen = random_choice(source)
            lot = lot_of_choice(chosen)
            for where in PLACES:
                self.assertIs(has(lot, pair(where)), chosen[where], (lot.text, where))

    def test_has_of_great_steps(self):
        lot = Lot((((1, GREAT), (GREAT - 1, GREAT), False, True),))
        told = [has(lot, step) for step in ((1, GREAT), (1, GREAT - 1), (1, GREAT + 1), (GREAT - 1, GREAT),
                                            (GREAT, GREAT + 1), (GREAT - 2, GREAT - 1), (0, 1))]
        self.assertEqual(told, [False, True, False, True, False, True, False])

    def test_two_lots(self):
        source = random.Random(19)
        for _ in range(300):
            one, other = random_choice(source), random_choice(source)
            lot, mate = lot_of_choice(one), lot_of_choice(other)
            with self.subTest(lot=lot.text, mate=mate.text):
                self.assertEqual(both(lot, mate).pieces, pieces_from(PLACES, lambda at: one[at] and other[at]))
                self.assertEqual(either(lot, mate).pieces, pieces_from(PLACES, lambda at: one[at] or other[at]))
                self.assertEqual(others(lot).pieces, pieces_from(PLACES, lambda at: not one[at]))
                self.assertIs(inside(lot, mate), all([other[at] for at in PLACES if one[at]]))
                for made in (both(lot, mate), either(lot, mate), others(lot)):
                    self.assertIs(type(made), Lot)
                    self.assertTrue(are_pieces(made.pieces))

    def test_one_end_and_one_step_between(self):
        for text, mate, needed in (
            ("[1/3]", "(1/3,1/2)", "none [1/3,1/2)"), ("[1/3]", "[0/1,1/3) (1/3,1/2)", "none [0/1,1/2)"),
            ("[0/1,1/3)", "(1/3,1/2)", "none [0/1,1/3) (1/3,1/2)"), ("[0/1,1/3]", "[1/3,1/2)", "[1/3] [0/1,1/2)"),
            ("[0/1,1/3]", "(1/3,1/2)", "none [0/1,1/2)"), ("[0/1,1/3)", "[1/3,1/2)", "none [0/1,1/2)"),
            ("[0/1,1/1)", "[1/3]", "[1/3] [0/1,1/1)"), ("none", "[1/3]", "none [1/3]"), ("[0/1]", "(0/1,1/1)", "none [0/1,1/1)"),
        ):
            with self.subTest(text=text, mate=mate):
                lot, mate = Lot.read(text), Lot.read(mate)
                self.assertEqual(f"{both(lot, mate).text} {either(lot, mate).text}", needed)
                self.assertEqual(f"{both(mate, lot).text} {either(mate, lot).text}", needed)

    def test_inside(self):
        for text, mate, told in (
            ("none", "none", True), ("none", "[1/3]", True), ("[1/3]", "none", False), ("[0/1,1/1)", "[0/1,1/1)", True),
            ("[1/3]", "[1/3,1/2)", True), ("[1/3]", "(1/3,1/2)", False), ("(1/3,1/2)", "[1/3,1/2]", True),
            ("[1/3,1/2]", "(1/3,1/2)", False), ("(1/3,1/2)", "(1/3,2/5) (2/5,1/2)", False),
            ("(1/3,2/5) (2/5,1/2)", "(1/3,1/2)", True), ("[1/4] [1/2]", "[1/4,1/3] [1/2,2/3]", True),
        ):
            self.assertIs(inside(Lot.read(text), Lot.read(mate)), told)

    def test_all_and_none(self):
        source = random.Random(20)
        none, whole = Lot(()), Lot(WHOLE)
        self.assertEqual([others(none), others(whole)], [whole, none])
        for _ in range(50):
            lot = lot_of_choice(random_choice(source))
            self.assertEqual([both(lot, whole), either(lot, none), others(others(lot))], [lot, lot, lot])
            self.assertEqual([both(lot, none), either(lot, whole)], [none, whole])
            self.assertEqual([both(lot, others(lot)), either(lot, others(lot))], [none, whole])
            self.assertEqual([both(lot, lot), either(lot, lot)], [lot, lot])

    def test_great_ends(self):
        low, high = (GREAT - 2, GREAT - 1), (GREAT - 1, GREAT)
        lot, mate = Lot((((0, 1), low, True, True),)), Lot(((low, high, True, False),))
        self.assertEqual(both(lot, mate).pieces, ((low, low, True, True),))
        self.assertEqual(either(lot, mate).pieces, (((0, 1), high, True, False),))
        self.assertEqual(others(lot).pieces, ((low, (1, 1), False, False),))


class Simplest(unittest.TestCase):

    def check(self, lot, told):
        self.assertEqual(simplest(lot), told, lot.text)
        self.assertEqual([type(part) for part in simplest(lot)], [int, int])

    def test_searched(self):
        source = random.Random(21)
        steps = steps_to(30)
        for _ in range(300):
            lot = lot_of_choice(random_choice(source))
            if lot.pieces:
                self.check(lot, [step for step in steps if belongs(lot.pieces, Fraction(*step))][0])

    def test_all_ends(self):
        steps, points = steps_to(22), fractions_to(7)
        for low in points:
            for high in points:
                for first in (True, False):
                    for last in (True, False):
                        pieces = ((pair(low), pair(high), first, last),)
                        if are_pieces(pieces):
                            within = [step for step in steps if belongs(pieces, Fraction(*step))]
                            self.check(Lot(pieces), within[0])

    def test_single_steps(self):
        for step in steps_to(9) + [(GREAT - 1, GREAT), (1, 10 ** 60 - 1)]:
            self.check(Lot(((step, step, True, True),)), step)

    def test_several_pieces(self):
        self.assertEqual(simplest(Lot.read("[2/5] [3/5]")), (2, 5))
        self.assertEqual(simplest(Lot.read("[1/5] [1/4] [2/3] [3/4]")), (2, 3))
        self.assertEqual(simplest(Lot.read("(0/1,1/2) (1/2,1/1)")), (1, 3))
        self.assertEqual(simplest(Lot.read("(1/2,1/1)")), (2, 3))
        self.assertEqual(simplest(Lot.read("(0/1,1/1)")), (1, 2))
        self.assertEqual(simplest(Lot.read("[0/1,1/1)")), (0, 1))

    def test_great_ones(self):
        source = random.Random(22)
        for figures in (4, 15, 30, 50):
            for _ in range(30):
                middle = pair(Fraction(source.randrange(2, 10 ** figures), 10 ** figures + 1))
                if middle[1] < 4:
                    continue
                low, high = neighbours(*middle)
                for first in (True, False):
                    for last in (True, False):
                        ends = [low] * first + [high] * last + [middle]
                        told = min([step for step in ends if step != (1, 1)], key=lambda step: (step[1], step[0]))
                        self.check(Lot(((low, high, first, last and high != (1, 1)),)), told)
                        self.check(Lot(((low, middle, False, last),)), middle if last else moved(low, middle, 1))
                        self.check(Lot(((middle, high, first, False),)), middle if first else moved(high, middle, 1))

    def test_next_to_nothing(self):
        self.check(Lot((((0, 1), (1, GREAT), False, False),)), (1, GREAT + 1))
        self.check(Lot((((0, 1), (1, GREAT), False, True),)), (1, GREAT))
        self.check(Lot((((0, 1), (1, GREAT), True, True),)), (0, 1))
        self.check(Lot((((GREAT - 1, GREAT), (1, 1), False, False),)), (GREAT, GREAT + 1))
        self.check(Lot((((GREAT - 1, GREAT), (1, 1), True, False),)), (GREAT - 1, GREAT))

    def test_no_step(self):
        for lot in (Lot(()), others(Lot(WHOLE)), both(Lot.read("[1/3]"), Lot.read("(1/3,1/2)"))):
            with self.assertRaises(NoStep):
                simplest(lot)


if __name__ == "__main__":
    unittest.main()
