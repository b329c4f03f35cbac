"""What is wrong for rimorders.scaled and rimorders.doubts: each argument by itself, and several at once."""

import unittest

from rimorders.doubts import fewest_wrong, lot_with, surely_right, surely_wrong
from rimorders.errors import InvalidNumber, InvalidSightings, NoStep, NotALot
from rimorders.lots import Lot
from rimorders.scaled import mirror, thinned, thinned_from
from wrong import GREAT, NO_INTEGERS, WRONG_LOTS, WRONG_SIGHTINGS, Hostile, LooksLikeATuple, Wrong

LOT = Lot.read("[1/4] (1/3,1/2)")
GOOD = ("turn", 0, 1, 2), ("on", 0, 3), ("within", 0, 40, (0, 1), (1, 60)), ("next", 41, 40, 0)
QUARREL = ("turn", 0, 1, 2), ("turn", 0, 2, 1)
WITH_MOST = lot_with, surely_wrong, surely_right
NO_NUMBERS = NO_INTEGERS + [0, -1, -40, 41, 42, GREAT, -GREAT]
NO_MOST = NO_INTEGERS + [-1, -8, 9, 10, 20, GREAT, -GREAT]


class Scaled(Wrong):

    def test_lots(self):
        for at, wrong in enumerate(WRONG_LOTS):
            with self.subTest(at=at):
                for call in (thinned, thinned_from):
                    self.check(NotALot, wrong, call, wrong, 2)
                    self.check(NotALot, wrong, call, number=2, lot=wrong)
                self.check(NotALot, wrong, mirror, wrong)
                self.check(NotALot, wrong, mirror, lot=wrong)

    def test_numbers(self):
        for lot in (LOT, Lot(())):
            for call in (thinned, thinned_from):
                for at, wrong in enumerate(NO_NUMBERS):
                    with self.subTest(at=at):
                        self.check(InvalidNumber, wrong, call, lot, wrong)
                        self.check(InvalidNumber, wrong, call, number=wrong, lot=lot)

    def test_several_wrong(self):
        for wrong in WRONG_LOTS:
            for behind in (None, [], Hostile(), 0, 41):
                for call in (thinned, thinned_from):
                    self.check(NotALot, wrong, call, wrong, behind)
                    self.check(NotALot, wrong, call, number=behind, lot=wrong)

    def test_just_within(self):
        for number in (1, 40):
            self.assertEqual([thinned(Lot(()), number), thinned_from(Lot(()), number)], [Lot(()), Lot(())])


class Doubts(Wrong):

    def check_sightings(self, index, sightings):
        self.check_index(InvalidSightings, index, fewest_wrong, sightings)
        self.check_index(InvalidSightings, index, fewest_wrong, sightings=sightings)
        for call in WITH_MOST:
            for most in (0, 8, 9, None, Hostile()):
                # Ahead of the number.
                self.check_index(InvalidSightings, index, call, sightings, most)
                self.check_index(InvalidSightings, index, call, most=most, sightings=sightings)

    def test_no_tuples_of_sightings(self):
        wrong_ones = [thing for thing in NO_INTEGERS if not isinstance(thing, tuple)]
        for at, wrong in enumerate(wrong_ones + [3, list(GOOD), {GOOD[0]}, {GOOD[0]: 1}, LooksLikeATuple(), iter(GOOD)]):
            with self.subTest(at=at):
                self.check_sightings(None, wrong)

    def test_sightings_among_others(self):
        for at, wrong in enumerate(WRONG_SIGHTINGS):
            with self.subTest(at=at):
                self.check_sightings(0, (wrong,))
                self.check_sightings(4, (*GOOD, wrong, wrong))
                self.check_sightings(2, (*GOOD[:2], wrong, *GOOD[2:]))
        self.check_sightings(0, GOOD[0])

    def test_the_ninth(self):
        for many in (9, 10, 20, 21):
            self.check_sightings(8, GOOD[:1] * many)
        self.check_sightings(8, GOOD * 2 + (None,))
        self.check_sightings(7, GOOD[:1] * 7 + (None, None, None))
        self.assertEqual([fewest_wrong(GOOD[:1] * 8), surely_right(GOOD[:1] * 8, 0)], [0, tuple(range(8))])

    def test_numbers(self):
        for sightings in ((), GOOD, QUARREL):
            for call in WITH_MOST:
                for at, wrong in enumerate(NO_MOST):
                    with self.subTest(at=at):
                        # Ahead of NoStep.
                        self.check(InvalidNumber, wrong, call, sightings, wrong)
                        self.check(InvalidNumber, wrong, call, most=wrong, sightings=sightings)

    def test_no_step_last(self):
        for call in (surely_wrong, surely_right):
            self.raised(NoStep, call, QUARREL, 0)
            self.raised(NoStep, call, most=0, sightings=QUARREL)
        self.assertEqual(lot_with(QUARREL, 0), Lot(()))

    def test_just_within(self):
        for most in (0, 8):
            self.assertEqual(lot_with((), most).text, "[0/1,1/1)")


if __name__ == "__main__":
    unittest.main()
