"""What a lot tells of orders: orders_in, parting_in and best_offer of rimorders.telling."""

import random
import unittest
from fractions import Fraction

from drawn import random_sighting, small_lot, small_sighting, steps_tried
from plain import fractions_to, moved, neighbours, order_of, pair, searched_parting, steps_to
from rimorders.lots import Lot, both, others
from rimorders.orders import how_many_orders
from rimorders.sightings import lot_of
from rimorders.steps import parting
from rimorders.telling import best_offer, orders_in, parting_in

GREAT = 10 ** 30
NONE = Lot(())
WHOLE = others(NONE)


def single(step):
    return Lot(((step, step, True, True),))


def searched_orders(lot, count):
    """The unlike orders of the steps of the lot, one in each stretch between two that differ."""
    return {order_of(step, count) for step in steps_tried(lot, fractions_to(count - 1) if count > 1 else [])}


class OrdersIn(unittest.TestCase):

    def check(self, lot, count):
        told = orders_in(lot, count)
        self.assertIs(type(told), int)
        self.assertEqual(told, len(searched_orders(lot, count)), (lot.text, count))

    def test_few_marks(self):
        source = random.Random(50)
        for _ in range(60):
            lot = small_lot(source)
            for count in range(1, 9):
                self.check(lot, count)

    def test_each_number(self):
        source = random.Random(51)
        for count in range(1, 42):
            self.check(small_lot(source), count)

    def test_many_marks(self):
        lots = [Lot.read(text) for text in (
            "[1/41]", "(0/1,1/40)", "[0/1,1/40]", "[1/40] [1/39]", "(1/40,1/39)", "[1/40,1/39]", "[20/41] (1/2,21/41)",
            "(1/3,13/38) (13/38,25/73]",
        )]
        for lot in lots:
            for count in (39, 40, 41):
                self.check(lot, count)

    def test_all_steps(self):
        for count in range(1, 42):
            self.assertEqual(orders_in(WHOLE, count), how_many_orders(count))

    def test_single_steps_and_none(self):
        for count in range(1, 42):
            self.assertEqual(orders_in(NONE, count), 0)
            for step in ((0, 1), (1, 2), (1, 40), (39, 41), (GREAT - 1, GREAT), (1, 10 ** 59)):
                self.assertEqual(orders_in(single(step), count), 1)

    def test_pieces_in_one_stretch(self):
        lot = Lot.read("[7/20] (9/25,11/30) [3/8]")
        self.assertEqual([orders_in(lot, count) for count in (1, 3, 4, 5, 6)], [1, 1, 1, 1, 1])
        self.assertEqual(orders_in(Lot.read("[7/20] (9/25,11/30) [3/8] [2/5]"), 6), 2)
        self.assertEqual(orders_in(Lot.read("[7/20] (9/25,11/30) [3/8] (2/5,5/12)"), 6), 2)
        # One mark has one order, however many pieces there are.
        self.assertEqual(orders_in(Lot.read("[0/1] [1/3] (1/2,1/1)"), 1), 1)
        self.assertEqual(orders_in(Lot.read("[0/1] [1/3] (1/2,1/1)"), 2), 2)

    def test_around_a_fraction(self):
        for text, told in (("(1/3,2/5)", 1), ("[1/3,2/5)", 2), ("(1/3,2/5]", 2), ("[1/3,2/5]", 3), ("[1/3]", 1),
                           ("(3/10,1/3)", 1), ("(3/10,1/3]", 2), ("(3/10,2/5]", 4), ("(3/10,1/3) (1/3,2/5)", 2)):
            self.assertEqual(orders_in(Lot.read(text), 6), told, text)

    def test_lots_of_great_bottoms(self):
        third = Fraction(1, 3)
        lot = Lot(((pair(third - Fraction(1, GREAT)), pair(third + Fraction(1, GREAT)), False, False),))
        self.assertEqual([orders_in(lot, count) for count in (1, 2, 3, 4, 41)], [1, 1, 1, 3, 3])


class PartingIn(unittest.TestCase):

    def test_searched(self):
        source = random.Random(52)
        for _ in range(150):
            lot = small_lot(source)
            steps = steps_tried(lot, fractions_to(13))
            if len(steps) < 2:
                self.assertIsNone(parting_in(lot))
                continue
            told = parting_in(lot)
            self.assertEqual({order_of(step, told - 1) for step in steps}, {order_of(steps[0], told - 1)}, lot.text)
            self.assertGreater(len({order_of(step, told) for step in steps}), 1, lot.text)

    def test_none_and_one(self):
        self.assertIsNone(parting_in(NONE))
        for step in [*steps_to(9), (GREAT - 1, GREAT), (1, 10 ** 59)]:
            self.assertIsNone(parting_in(single(step)))

    def test_two_steps(self):
        steps = steps_to(11)
        for one in steps:
            for other in steps:
                if Fraction(*one) < Fraction(*other):
                    lot = Lot(((one, one, True, True), (other, other, True, True)))
                    self.assertEqual(parting_in(lot), searched_parting(one, other))

    def test_two_great_steps(self):
        source = random.Random(53)
        for figures in (3, 15, 30, 58):
            for _ in range(20):
                bottom = source.randrange(2, 10 ** figures) + 2
                low, high = sorted({Fraction(source.randrange(bottom), bottom), Fraction(source.randrange(bottom), bottom + 1)}
                                   | {Fraction(1, bottom + 2)})[:2]
                lot = Lot(((pair(low), pair(low), True, True), (pair(high), pair(high), True, True)))
                self.assertEqual(parting_in(lot), parting(pair(low), pair(high)))

    def test_all_ends(self):
        for text, told in (
            ("[0/1,1/1)", 2), ("(0/1,1/1)", 3), ("[0/1] [1/7]", 2), ("(0/1,1/2)", 4), ("(0/1,1/2]", 3), ("(1/2,1/1)", 4),
            ("[1/2,1/1)", 3), ("(1/3,1/2)", 6), ("[1/3,1/2)", 4), ("[2/5,3/7]", 6), ("(2/5,3/7]", 8), ("(2/5,3/7)", 13),
            ("[2/5] [3/7]", 6), ("(1/3,2/5) (2/5,1/2)", 6), ("(1/3,3/8] [3/7]", 6),
        ):
            self.assertEqual(parting_in(Lot.read(text)), told, text)

    def test_narrow_pieces(self):
        source = random.Random(54)
        for figures in (4, 15, 30):
            for _ in range(30):
                middle = pair(Fraction(source.randrange(2, 10 ** figures), 10 ** figures + 1))
                if middle[1] < 4:
                    continue
                # Neighbours whose bottoms add up to that of the simplest fraction between them.
                low, high = neighbours(*middle)
                far = moved(low, middle, 1)
                self.assertEqual(parting_in(Lot(((low, high, False, False),))), middle[1] + 1)
                self.assertEqual(parting_in(Lot(((low, middle, False, False),))), far[1] + 1)
                self.assertEqual(parting_in(Lot(((low, middle, True, False),))), low[1] + 1)
                self.assertEqual(parting_in(Lot(((low, middle, False, True),))), middle[1] + 1)
                self.assertEqual(parting_in(Lot(((low, far, False, False), (middle, middle, True, True)))), middle[1] + 1)
                self.assertIs(type(parting_in(Lot(((low, high, False, False),)))), int)
        self.assertEqual(parting_in(Lot((((0, 1), (1, GREAT), False, False),))), GREAT + 2)
        self.assertEqual(parting_in(Lot((((1, GREAT), (1, GREAT - 1), False, False),))), 2 * GREAT)


class BestOffer(unittest.TestCase):

    def numbers(self, lot, offers, count):
        """For each offer how many orders of both parts there are, the greater one."""
        return [max(len(searched_orders(both(lot, lot_of(offer)), count)),
                    len(searched_orders(both(lot, others(lot_of(offer))), count))) for offer in offers]

    def test_searched(self):
        source = random.Random(55)
        found = set()
        for _ in range(60):
            lot, count = small_lot(source), source.randrange(1, 9)
            offers = tuple([small_sighting(source) for _ in range(source.randrange(1, 6))])
            numbers = self.numbers(lot, offers, count)
            told = best_offer(lot, offers, count)
            self.assertIs(type(told), int)
            # The first one of several that are equally good.
            self.assertEqual(told, numbers.index(min(numbers)), (lot.text, offers, count))
            found.add(told)
        self.assertLessEqual({0, 1, 2}, found)

    def test_twenty_offers(self):
        source = random.Random(56)
        for count in (1, 2, 12, 41):
            offers = tuple([random_sighting(source) for _ in range(20)])
            numbers = [max(orders_in(both(WHOLE, lot_of(offer)), count), orders_in(others(lot_of(offer)), count))
                       for offer in offers]
            self.assertEqual(best_offer(WHOLE, offers, count), numbers.index(min(numbers)))

    def test_first_of_several(self):
        best, worse = ("turn", 0, 1, 2), ("on", 0, 1)
        for at in range(5):
            offers = (worse,) * at + (best,) + (worse,) * (3 - min(at, 3)) + (best, worse)
            self.assertEqual(best_offer(WHOLE, offers, 5), at)
        # The other way round it parts the lot alike.
        self.assertEqual(best_offer(Lot.read("(1/3,2/3)"), (worse, ("turn", 0, 2, 1), ("turn", 0, 1, 2)), 7), 1)

    def test_both_parts_count(self):
        # It is the greater part that has to be small: neither a part of nothing nor one of a single order helps.
        lot = Lot.read("(0/1,1/1)")
        never, one, half = ("on", 0, 1), ("on", 0, 2), ("turn", 0, 1, 2)
        self.assertEqual([orders_in(both(lot, lot_of(offer)), 5) for offer in (never, one, half)], [0, 1, 5])
        self.assertEqual(best_offer(lot, (never, one, half), 5), 2)
        sure = ("within", 0, 1, (0, 1), (1, 1))
        self.assertEqual(best_offer(lot, (sure, never, one), 5), 2)

    def test_number_of_marks_matters(self):
        lot, offers = Lot.read("(1/3,1/2)"), (("turn", 0, 2, 3), ("within", 0, 4, (0, 1), (1, 2)))
        told = {count: best_offer(lot, offers, count) for count in (1, 6, 12)}
        for count, index in told.items():
            numbers = self.numbers(lot, offers, count)
            self.assertEqual(index, numbers.index(min(numbers)))
        self.assertEqual([told[1], told[6], told[12]], [0, 0, 1])

    def test_empty_lot(self):
        self.assertEqual(best_offer(NONE, (("on", 0, 1),), 1), 0)
        self.assertEqual(best_offer(NONE, (("turn", 0, 1, 2), ("on", 0, 1), ("next", 3, 0, 1)), 41), 0)


if __name__ == "__main__":
    unittest.main()
