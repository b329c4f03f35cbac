"""What is wrong for what a lot tells: each argument of rimorders.telling by itself, and several at once."""

import unittest

from rimorders.errors import InvalidNumber, InvalidSighting, InvalidSightings, NoStep, NotALot
from rimorders.lots import Lot
from rimorders.telling import best_offer, judge, orders_in, parting_in, shown, sure_next
from wrong import GREAT, NO_INTEGERS, WRONG_LOTS, WRONG_SIGHTINGS, Hostile, LooksLikeATuple, Wrong

LOT = Lot.read("[1/4] (1/3,1/2)")
NONE = Lot(())
SIGHTING = ("turn", 0, 1, 2)
OFFERS = ("turn", 0, 1, 2), ("on", 0, 3), ("within", 0, 40, (0, 1), (1, 60)), ("next", 41, 40, 0)
NO_COUNTS = NO_INTEGERS + [0, -1, -41, 42, 43, GREAT, -GREAT]
FEW_WRONG = None, [], (2, 4), Hostile(), -1, 99


class Lots(Wrong):

    def test_each_function(self):
        for at, wrong in enumerate(WRONG_LOTS):
            with self.subTest(at=at):
                for call in (judge, shown):
                    self.check(NotALot, wrong, call, wrong, SIGHTING)
                    self.check(NotALot, wrong, call, sighting=SIGHTING, lot=wrong)
                self.check(NotALot, wrong, orders_in, wrong, 5)
                self.check(NotALot, wrong, orders_in, count=5, lot=wrong)
                self.check(NotALot, wrong, sure_next, wrong, 5, 3)
                self.check(NotALot, wrong, sure_next, mark=3, count=5, lot=wrong)
                self.check(NotALot, wrong, parting_in, wrong)
                self.check(NotALot, wrong, parting_in, lot=wrong)
                self.check(NotALot, wrong, best_offer, wrong, OFFERS, 5)
                self.check(NotALot, wrong, best_offer, count=5, offers=OFFERS, lot=wrong)

    def test_ahead_of_all_others(self):
        for at, wrong in enumerate(WRONG_LOTS):
            for behind in FEW_WRONG:
                with self.subTest(at=at):
                    for call in (judge, shown, orders_in):
                        self.check(NotALot, wrong, call, wrong, behind)
                    for call in (sure_next, best_offer):
                        self.check(NotALot, wrong, call, wrong, behind, behind)
                        self.check(NotALot, wrong, call, wrong, 5, behind)


class Sightings(Wrong):

    def test_sightings(self):
        for lot in (LOT, NONE):
            for at, wrong in enumerate(WRONG_SIGHTINGS):
                for call in (judge, shown):
                    with self.subTest(at=at):
                        # Ahead of NoStep.
                        self.check(InvalidSighting, wrong, call, lot, wrong)
                        self.check(InvalidSighting, wrong, call, sighting=wrong, lot=lot)

    def test_no_step_last(self):
        self.raised(NoStep, judge, NONE, SIGHTING)
        self.raised(NoStep, judge, sighting=SIGHTING, lot=NONE)


class Numbers(Wrong):

    def test_counts(self):
        for lot in (LOT, NONE):
            for at, wrong in enumerate(NO_COUNTS):
                with self.subTest(at=at):
                    self.check(InvalidNumber, wrong, orders_in, lot, wrong)
                    self.check(InvalidNumber, wrong, orders_in, count=wrong, lot=lot)
                    self.check(InvalidNumber, wrong, best_offer, lot, OFFERS, wrong)
                    self.check(InvalidNumber, wrong, best_offer, count=wrong, offers=OFFERS, lot=lot)
            for at, wrong in enumerate(NO_COUNTS + [1]):
                with self.subTest(at=at):
                    self.check(InvalidNumber, wrong, sure_next, lot, wrong, 0)
                    self.check(InvalidNumber, wrong, sure_next, mark=0, count=wrong, lot=lot)

    def test_marks(self):
        for lot in (LOT, NONE):
            for count in (2, 5, 41):
                for at, wrong in enumerate(NO_INTEGERS + [-1, -2, count, count + 1, 41, GREAT, -GREAT]):
                    with self.subTest(count=count, at=at):
                        self.check(InvalidNumber, wrong, sure_next, lot, count, wrong)
                        self.check(InvalidNumber, wrong, sure_next, mark=wrong, count=count, lot=lot)

    def test_count_ahead_of_mark(self):
        for wrong in NO_COUNTS + [1]:
            for behind in (None, [], Hostile(), -1, 41, 99):
                self.check(InvalidNumber, wrong, sure_next, LOT, wrong, behind)
                self.check(InvalidNumber, wrong, sure_next, mark=behind, count=wrong, lot=NONE)

    def test_no_step_last(self):
        self.raised(NoStep, sure_next, NONE, 2, 1)
        self.raised(NoStep, sure_next, mark=0, count=41, lot=NONE)

    def test_just_within(self):
        for count in (1, 41):
            self.assertEqual([orders_in(NONE, count), best_offer(LOT, (SIGHTING,), count)], [0, 0])
        self.assertEqual([sure_next(LOT, 2, 0), sure_next(LOT, 2, 1)], [1, 0])
        self.assertIsNone(sure_next(LOT, 41, 40))


class Offers(Wrong):

    def check_offers(self, index, offers):
        for lot in (LOT, NONE):
            for count in (5, 0, None, Hostile()):
                # Ahead of the count.
                self.check_index(InvalidSightings, index, best_offer, lot, offers, count)
                self.check_index(InvalidSightings, index, best_offer, count=count, offers=offers, lot=lot)

    def test_no_tuples(self):
        wrong_ones = [thing for thing in NO_INTEGERS if not isinstance(thing, tuple)]
        for at, wrong in enumerate(wrong_ones + [3, list(OFFERS), {OFFERS[0]}, {OFFERS[0]: 1}, LooksLikeATuple(), iter(OFFERS)]):
            with self.subTest(at=at):
                self.check_offers(None, wrong)

    def test_none(self):
        self.check_offers(None, ())

    def test_among_others(self):
        for at, wrong in enumerate(WRONG_SIGHTINGS):
            with self.subTest(at=at):
                self.check_offers(0, (wrong,))
                self.check_offers(4, (*OFFERS, wrong))
                self.check_offers(2, (*OFFERS[:2], wrong, *OFFERS[2:], wrong))
        self.check_offers(0, SIGHTING)

    def test_too_many(self):
        for many in (21, 22, 50):
            self.check_offers(20, (SIGHTING,) * many)
        self.check_offers(20, (SIGHTING,) * 20 + (None,))
        self.check_offers(19, (SIGHTING,) * 19 + (None, None, None))
        self.assertEqual(best_offer(LOT, (SIGHTING,) * 20, 5), 0)


class AsTheyWere(Wrong):

    def test_what_was_passed(self):
        offers, lot = [SIGHTING], LOT.pieces
        self.check_index(InvalidSightings, None, best_offer, LOT, offers, 5)
        self.check(NotALot, offers, judge, offers, SIGHTING)
        self.assertEqual([offers, LOT.pieces], [[SIGHTING], lot])


if __name__ == "__main__":
    unittest.main()
