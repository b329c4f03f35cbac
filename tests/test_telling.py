"""What a lot tells of sightings and of marks: judge, shown and sure_next of rimorders.telling."""

import random
import unittest
from fractions import Fraction

from drawn import changes, random_sighting, small_lot, small_sighting, steps_tried
from plain import belongs, fractions_to, is_met, pair, steps_to
from rimorders.errors import NoStep
from rimorders.lots import Lot, both, either, others
from rimorders.sightings import lot_of
from rimorders.telling import best_offer, judge, orders_in, parting_in, shown, sure_next

GREAT = 10 ** 30
NONE = Lot(())
WHOLE = others(NONE)


def single(step):
    return Lot(((step, step, True, True),))


class Examples(unittest.TestCase):

    def test_example(self):
        third, wide = Lot((((1, 3), (2, 5), True, False),)), Lot.read("[1/4] (1/3,1/2)")
        self.assertEqual(
            [judge(third, ("turn", 0, 1, 2)), judge(third, ("turn", 0, 3, 1)), judge(third, ("on", 0, 2)),
             shown(third, ("on", 0, 3))[0], orders_in(third, 4), orders_in(third, 9), sure_next(third, 3, 0),
             sure_next(third, 4, 0)],
            ['sure', 'open', 'never', (1, 3), 2, 4, 1, None],
        )
        self.assertEqual(
            [best_offer(wide, (("turn", 0, 1, 2), ("turn", 0, 3, 1), ("turn", 0, 5, 2)), 6), parting_in(third),
             parting_in(both(third, wide)), parting_in(Lot.read("[1/3]")), parting_in(wide)],
            [2, 4, 9, None, 4],
        )

    def test_by_name(self):
        third = Lot((((1, 3), (2, 5), True, False),))
        self.assertEqual(judge(lot=third, sighting=("turn", 0, 1, 2)), "sure")
        self.assertEqual(judge(sighting=("turn", 0, 3, 1), lot=third), "open")
        self.assertEqual(shown(sighting=("on", 0, 3), lot=third)[0], (1, 3))
        self.assertEqual(orders_in(count=9, lot=third), 4)
        self.assertEqual(sure_next(mark=0, count=3, lot=third), 1)
        self.assertEqual(parting_in(lot=third), 4)
        self.assertEqual(best_offer(count=6, offers=(("turn", 0, 1, 2), ("turn", 0, 3, 1)), lot=third), 1)


class Judged(unittest.TestCase):

    def check(self, lot, sighting):
        """Returns what was told, for all steps of the lot that may tell it."""
        steps = steps_tried(lot, changes(sighting))
        right = [is_met(sighting, step) for step in steps]
        told = judge(lot, sighting)
        self.assertEqual(told, "sure" if all(right) else "open" if any(right) else "never", (lot.text, sighting))
        self.check_shown(lot, sighting, told)
        return told

    def check_shown(self, lot, sighting, told):
        both_steps = shown(lot, sighting)
        self.assertEqual((type(both_steps), len(both_steps)), (tuple, 2))
        for step, needed in zip(both_steps, (True, False)):
            if told == ("never" if needed else "sure"):
                self.assertIsNone(step)
            else:
                self.assertEqual([type(step), *[type(part) for part in step]], [tuple, int, int])
                self.assertTrue(belongs(lot.pieces, Fraction(*step)), (lot.text, sighting))
                self.assertIs(is_met(sighting, step), needed, (lot.text, sighting))

    def test_small_ones(self):
        source = random.Random(40)
        told = []
        for _ in range(1000):
            lot = small_lot(source)
            if lot.pieces:
                told.append(self.check(lot, small_sighting(source)))
        for word in ("sure", "never", "open"):
            self.assertGreater(told.count(word), 30)

    def test_all_sightings(self):
        source = random.Random(41)
        for _ in range(100):
            lot = small_lot(source)
            if lot.pieces:
                self.check(lot, random_sighting(source))

    def test_narrow_lots(self):
        # Within a stretch in which no mark passes another one, beside it and around it.
        source = random.Random(42)
        told = []
        points = fractions_to(40)
        for _ in range(150):
            at = source.randrange(len(points) - 2)
            low, high = [pair(point) for point in points[at:at + 2]]
            lot = Lot(((low, high, source.random() < 0.5, source.random() < 0.5),))
            told.append(self.check(lot, random_sighting(source)))
        for word in ("sure", "never", "open"):
            self.assertGreater(told.count(word), 5)

    def test_lots_of_the_sighting(self):
        source = random.Random(43)
        for _ in range(60):
            sighting = random_sighting(source)
            right = lot_of(sighting)
            self.assertEqual(self.check(others(right), sighting), "never")
            if right.pieces:
                self.assertEqual(self.check(right, sighting), "sure")
                self.assertEqual(self.check(WHOLE, sighting), "open")
                # One piece of several is enough to leave it open.
                mixed = either(Lot(right.pieces[:1]), Lot(others(right).pieces[-1:]))
                self.assertEqual(self.check(mixed, sighting), "open")

    def test_single_steps(self):
        source = random.Random(44)
        for step in [*steps_to(9), (GREAT - 1, GREAT), (1, 10 ** 59)]:
            for _ in range(5):
                sighting = small_sighting(source)
                told = judge(single(step), sighting)
                self.assertEqual(told, "sure" if is_met(sighting, step) else "never")
                self.assertEqual(shown(single(step), sighting), (step, None) if told == "sure" else (None, step))

    def test_one_step_otherwise(self):
        # It is right for all but one of the steps, or for that one only.
        self.assertEqual(judge(Lot.read("[1/3,2/5)"), ("turn", 0, 3, 1)), "open")
        self.assertEqual(judge(Lot.read("(1/3,2/5)"), ("turn", 0, 3, 1)), "sure")
        self.assertEqual(shown(Lot.read("[1/3,2/5)"), ("turn", 0, 3, 1))[1], (1, 3))
        self.assertEqual(judge(Lot.read("[1/3,2/5)"), ("on", 0, 3)), "open")
        self.assertEqual(judge(Lot.read("(1/3,2/3)"), ("on", 0, 3)), "never")
        self.assertEqual(judge(Lot.read("[1/3] [2/3]"), ("on", 0, 3)), "sure")
        third = Fraction(1, 3)
        low, high = pair(third - Fraction(1, GREAT)), pair(third + Fraction(1, GREAT))
        self.assertEqual(shown(Lot(((low, high, True, True),)), ("on", 0, 3))[0], (1, 3))

    def test_empty_lot(self):
        for sighting in (("turn", 0, 1, 2), ("on", 0, 1), ("within", 0, 1, (0, 1), (1, 1)), ("next", 2, 0, 1)):
            with self.assertRaises(NoStep):
                judge(NONE, sighting)
            self.assertEqual(shown(NONE, sighting), (None, None))

    def test_the_same_one_each_time(self):
        source = random.Random(45)
        for _ in range(30):
            lot, sighting = small_lot(source), small_sighting(source)
            self.assertEqual(shown(lot, sighting), shown(Lot(lot.pieces), tuple(list(sighting))))


class SureNext(unittest.TestCase):

    def check(self, lot, count, mark):
        """Each other mark is tried, for each step."""
        steps = steps_tried(lot, fractions_to(count - 1))
        sure = [told for told in range(count)
                if told != mark and all(is_met(("next", count, mark, told), step) for step in steps)]
        self.assertLessEqual(len(sure), 1)
        told = sure_next(lot, count, mark)
        self.assertEqual(told, sure[0] if sure else None, (lot.text, count, mark))
        self.assertIn(type(told), (int, type(None)))
        return told

    def test_few_marks(self):
        source = random.Random(46)
        found = []
        for _ in range(250):
            lot, count = small_lot(source), source.randrange(2, 9)
            if lot.pieces:
                found.append(self.check(lot, count, source.randrange(count)))
        self.assertGreater(len([told for told in found if told is not None]), 20)
        self.assertGreater(found.count(None), 50)

    def test_single_steps(self):
        for step in steps_to(7):
            for count in (2, 3, 5, 7, 8, 9, 14):
                for mark in {0, 1, count // 2, count - 1}:
                    self.check(single(step), count, mark)

    def test_stretches(self):
        source = random.Random(47)
        for count in (2, 3, 4, 7, 12, 20, 41):
            points = fractions_to(count - 1)
            for _ in range(6):
                at = source.randrange(len(points) - 1)
                low, high = [pair(point) for point in points[at:at + 2]]
                mark = source.randrange(count)
                self.assertIsNotNone(self.check(Lot(((low, high, False, False),)), count, mark))
                self.check(Lot(((low, high, True, False),)), count, mark)

    def test_several_pieces(self):
        # The same mark comes next in several pieces, or another one in the last of them.
        self.assertEqual(self.check(Lot.read("[1/4] (1/3,1/2)"), 3, 0), 1)
        self.assertEqual(self.check(Lot.read("(0/1,1/9) [1/4] (1/3,2/5) [3/7]"), 3, 0), 1)
        self.assertIsNone(self.check(Lot.read("(0/1,1/9) [1/4] (1/3,2/5) (1/2,3/5)"), 3, 0))
        self.assertIsNone(self.check(Lot.read("(0/1,1/9) [1/2] (2/3,1/1)"), 3, 1))
        # For 0 there is none at another place, and for 1/2 there are two at one place.
        self.assertIsNone(self.check(Lot.read("[0/1] (1/3,1/2)"), 3, 0))
        self.assertIsNone(self.check(Lot.read("[0/1,1/3)"), 3, 0))
        self.assertEqual(self.check(Lot.read("(0/1,1/2]"), 3, 0), 1)
        self.assertIsNone(self.check(Lot.read("[1/2]"), 4, 0))
        self.assertEqual(self.check(Lot.read("[1/2]"), 3, 2), 1)

    def test_where_the_simplest_step_tells_otherwise(self):
        self.assertIsNone(self.check(Lot.read("[1/3,2/5)"), 4, 0))
        self.assertIsNone(self.check(Lot.read("[1/3,2/5)"), 4, 2))
        self.assertEqual(self.check(Lot.read("[1/3,2/5)"), 4, 1), 2)
        self.assertEqual(self.check(Lot.read("(1/3,2/5)"), 4, 0), 3)
        self.assertEqual(self.check(Lot.read("(1/3,2/5)"), 4, 2), 0)
        self.assertIsNone(self.check(Lot.read("[2/5,1/2]"), 5, 4))

    def test_great_ones(self):
        lot = Lot((((1, GREAT), (1, GREAT - 1), True, False),))
        self.assertEqual([sure_next(lot, 41, mark) for mark in (0, 1, 39, 40)], [1, 2, 40, 0])
        lot = Lot((((GREAT - 1, GREAT), (GREAT - 1, GREAT), True, True),))
        self.assertEqual([sure_next(lot, 41, mark) for mark in (0, 1, 39, 40)], [40, 0, 38, 39])

    def test_empty_lot(self):
        for count, mark in ((2, 0), (2, 1), (41, 40)):
            with self.assertRaises(NoStep):
                sure_next(NONE, count, mark)


if __name__ == "__main__":
    unittest.main()
