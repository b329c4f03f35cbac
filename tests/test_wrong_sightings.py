"""What is wrong for sightings: each way in which a tuple is none, one by one and among others."""

import unittest

from rimorders.errors import InvalidSighting, InvalidSightings, InvalidStep
from rimorders.sightings import is_right, lot_of, lot_of_all, striking
from wrong import NO_INTEGERS, WRONG_SIGHTINGS, WRONG_STEPS, Hostile, LooksLikeATuple, Wrong

GOOD = ("turn", 0, 1, 2), ("on", 0, 3), ("within", 0, 40, (0, 1), (1, 60)), ("next", 41, 40, 0)


class OneWrong(Wrong):

    def test_sightings_one_by_one(self):
        for at, wrong in enumerate(WRONG_SIGHTINGS):
            with self.subTest(at=at):
                self.check(InvalidSighting, wrong, lot_of, wrong)
                self.check(InvalidSighting, wrong, lot_of, sighting=wrong)
                self.check(InvalidSighting, wrong, is_right, wrong, (3, 8))
                self.check(InvalidSighting, wrong, is_right, step=(3, 8), sighting=wrong)

    def test_steps(self):
        for at, wrong in enumerate(WRONG_STEPS):
            with self.subTest(at=at):
                for sighting in GOOD:
                    self.check(InvalidStep, wrong, is_right, sighting, wrong)
                    self.check(InvalidStep, wrong, is_right, step=wrong, sighting=sighting)

    def test_no_tuples_of_sightings(self):
        wrong_ones = [thing for thing in NO_INTEGERS if not isinstance(thing, tuple)]
        for at, wrong in enumerate(wrong_ones + [3, "turn", list(GOOD), {GOOD[0]}, {GOOD[0]: 1}, LooksLikeATuple(), iter(GOOD)]):
            for call in (lot_of_all, striking):
                with self.subTest(at=at):
                    self.check_index(InvalidSightings, None, call, wrong)
                    self.check_index(InvalidSightings, None, call, sightings=wrong)

    def test_sightings_among_others(self):
        for at, wrong in enumerate(WRONG_SIGHTINGS):
            for call in (lot_of_all, striking):
                with self.subTest(at=at):
                    self.check_index(InvalidSightings, 0, call, (wrong,))
                    self.check_index(InvalidSightings, 0, call, (wrong, *GOOD))
                    self.check_index(InvalidSightings, 4, call, sightings=(*GOOD, wrong))
                    self.check_index(InvalidSightings, 2, call, (*GOOD[:2], wrong, *GOOD[2:]))

    def test_a_sighting_is_no_tuple_of_them(self):
        for sighting in GOOD:
            for call in (lot_of_all, striking):
                self.check_index(InvalidSightings, 0, call, sighting)

    def test_too_many(self):
        one = GOOD[0]
        for many in (21, 22, 40, 100):
            self.check_index(InvalidSightings, 20, lot_of_all, (one,) * many)
        for many in (9, 10, 20, 21, 50):
            self.check_index(InvalidSightings, 8, striking, (one,) * many)
        self.assertEqual(lot_of_all((one,) * 20).text, "(0/1,1/2)")
        self.assertEqual(striking((one,) * 8), ((),))


class SeveralWrong(Wrong):

    def test_first_one(self):
        one = GOOD[0]
        for wrong in (None, ("turn", 0, 0, 1), Hostile(), []):
            self.check_index(InvalidSightings, 0, lot_of_all, (wrong, wrong))
            self.check_index(InvalidSightings, 1, lot_of_all, (one, wrong, wrong))
            # One that is none stands ahead of the ones too many, or is itself one of these.
            self.check_index(InvalidSightings, 19, lot_of_all, (one,) * 19 + (wrong,) + (one,) * 5)
            self.check_index(InvalidSightings, 20, lot_of_all, (one,) * 20 + (wrong,))
            self.check_index(InvalidSightings, 20, lot_of_all, (one,) * 21 + (wrong,))
            self.check_index(InvalidSightings, 3, lot_of_all, (one,) * 3 + (wrong,) * 30)
            self.check_index(InvalidSightings, 7, striking, (one,) * 7 + (wrong,) + (one,) * 5)
            self.check_index(InvalidSightings, 8, striking, (one,) * 8 + (wrong,))
            self.check_index(InvalidSightings, 8, striking, (one,) * 9 + (wrong,))

    def test_sighting_ahead_of_step(self):
        for at, wrong in enumerate(WRONG_SIGHTINGS):
            for behind in (None, (2, 4), [], Hostile(), (1, 1)):
                with self.subTest(at=at):
                    self.check(InvalidSighting, wrong, is_right, wrong, behind)
                    self.check(InvalidSighting, wrong, is_right, step=behind, sighting=wrong)

    def test_what_was_passed_is_as_it_was(self):
        wrong = ["turn", [0], 1, 2]
        self.check(InvalidSighting, wrong, lot_of, wrong)
        self.check_index(InvalidSightings, 0, lot_of_all, (wrong,))
        self.check_index(InvalidSightings, None, striking, wrong)
        self.assertEqual(wrong, ["turn", [0], 1, 2])


class Bounds(unittest.TestCase):

    def test_just_within(self):
        for sighting in (
            ("turn", 40, 0, 39), ("on", 0, 40), ("on", 40, 0), ("next", 2, 0, 1), ("next", 2, 1, 0), ("next", 41, 40, 39),
            ("within", 0, 40, (0, 1), (1, 1)), ("within", 40, 0, (58, 59), (59, 60)), ("within", 0, 1, (1, 60), (1, 59)),
        ):
            self.assertTrue(lot_of(sighting).pieces)
            self.assertIn(is_right(sighting, (1, 10 ** 59)), (True, False))


if __name__ == "__main__":
    unittest.main()
