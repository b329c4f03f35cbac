"""What is wrong for lots: each way in which pieces are none, and what is no lot."""

import unittest

from plain import are_pieces
from rimorders.errors import InvalidPieces, InvalidStep, NotALot, NotRight
from rimorders.lots import Lot, both, either, has, inside, others, simplest
from wrong import GREAT, NO_INTEGERS, WRONG_ENDS, WRONG_LOTS, WRONG_STEPS, Hostile, LooksLikeATuple, Wrong

GOOD = (1, 3), (2, 5), True, False
AHEAD = (0, 1), (1, 7), True, True

WRONG_PIECES = [
    *NO_INTEGERS, 3, "[1/3]", b"[1/3]", Lot((GOOD,)),
    # lists in the place of tuples
    list(GOOD), [list(end) for end in GOOD[:2]] + [True, False], ([1, 3], (2, 5), True, False), ((1, 3), [2, 5], True, False),
    # other lengths
    GOOD[:1], GOOD[:2], GOOD[:3], GOOD + (False,), GOOD + GOOD, (GOOD,), GOOD[1:],
    # no truths
    ((1, 3), (2, 5), 1, 0), ((1, 3), (2, 5), 1, False), ((1, 3), (2, 5), True, 0), ((1, 3), (2, 5), None, False),
    ((1, 3), (2, 5), True, None), ((1, 3), (2, 5), "", False), ((1, 3), (2, 5), True, ()), ((1, 3), (2, 5), [], []),
    ((1, 3), (2, 5), Hostile(), True), ((1, 3), (2, 5), True, Hostile()), (True, False, (1, 3), (2, 5)),
    # low is not less than high
    ((2, 5), (1, 3), True, True), ((2, 5), (1, 3), False, False), ((1, 1), (0, 1), True, False), ((1, 2), (0, 1), True, True),
    # single steps with an end that does not belong
    ((1, 3), (1, 3), True, False), ((1, 3), (1, 3), False, True), ((1, 3), (1, 3), False, False), ((0, 1), (0, 1), False, True),
    # 1 belongs to no lot
    ((1, 3), (1, 1), True, True), ((1, 3), (1, 1), False, True), ((0, 1), (1, 1), True, True),
    ((1, 1), (1, 1), True, True), ((1, 1), (1, 1), True, False), ((1, 1), (1, 1), False, True), ((1, 1), (1, 1), False, False),
    ((1, 1), (2, 1), True, False), ((1, 3), (3, 2), True, False), ((-1, 3), (1, 3), True, False),
]

# Behind ((1, 3), (2, 5), ..) these lie not behind, or touch so that they could be one.
TOUCHING = [
    (last, piece)
    for last in (True, False)
    for piece in (((2, 5), (1, 2), True, False), ((2, 5), (2, 5), True, True), ((2, 5), (1, 1), True, False))
] + [(True, ((2, 5), (1, 2), False, False)), (True, ((2, 5), (1, 2), False, True))]
NOT_BEHIND = [
    ((1, 3), (2, 5), True, False), ((1, 3), (2, 5), True, True), ((0, 1), (1, 4), True, True), ((0, 1), (1, 3), True, False),
    ((3, 8), (1, 2), True, True), ((3, 8), (3, 8), True, True), ((1, 3), (1, 3), True, True), ((0, 1), (1, 1), True, False),
    ((1, 3), (1, 1), False, False), ((0, 1), (0, 1), True, True), ((7, 18), (1, 2), False, False),
]


class Pieces(Wrong):

    def check_pieces(self, index, pieces):
        self.check_index(InvalidPieces, index, Lot, pieces)
        self.check_index(InvalidPieces, index, Lot, pieces=pieces)

    def test_no_tuples(self):
        for at, wrong in enumerate([thing for thing in NO_INTEGERS if not isinstance(thing, tuple)] + [
            0, 3, "none", [GOOD], [], {GOOD}, {GOOD: True}, Lot, Lot(()), Lot((GOOD,)), iter((GOOD,)), LooksLikeATuple(),
        ]):
            with self.subTest(at=at):
                self.check_pieces(None, wrong)

    def test_none_by_themselves(self):
        for at, wrong in enumerate(WRONG_PIECES):
            with self.subTest(at=at):
                self.check_pieces(0, (wrong,))
                self.check_pieces(0, (wrong, GOOD))
                self.check_pieces(1, (AHEAD, wrong))
                self.check_pieces(1, (AHEAD, wrong, GOOD))
                self.check_pieces(2, (AHEAD, GOOD, wrong))

    def test_ends(self):
        for at, wrong in enumerate(WRONG_ENDS):
            with self.subTest(at=at):
                self.check_pieces(0, ((wrong, (2, 5), True, False),))
                self.check_pieces(0, (((1, 3), wrong, True, False),))
                self.check_pieces(0, ((wrong, wrong, True, True),))
                self.check_pieces(1, (AHEAD, ((1, 3), wrong, True, False)))

    def test_first_wrong_one(self):
        self.check_pieces(0, (None, None))
        self.check_pieces(1, (GOOD, AHEAD, None))
        self.check_pieces(1, (AHEAD, None, AHEAD))
        self.check_pieces(0, (((1, 1), (1, 1), True, True), GOOD, GOOD))

    def test_touching_so_that_they_could_be_one(self):
        for last, piece in TOUCHING:
            with self.subTest(last=last, piece=piece):
                self.check_pieces(1, (((1, 3), (2, 5), True, last), piece))
                self.check_pieces(2, (AHEAD, ((1, 3), (2, 5), False, last), piece))
        # Single steps are touched, too.
        single = (1, 3), (1, 3), True, True
        self.check_pieces(1, (single, ((1, 3), (2, 5), False, False)))
        self.check_pieces(1, (((0, 1), (1, 3), True, False), single))
        self.check_pieces(1, (single, single))
        self.check_pieces(1, (((0, 1), (0, 1), True, True), ((0, 1), (1, 3), False, False)))

    def test_not_behind(self):
        for piece in NOT_BEHIND:
            for last in (True, False):
                with self.subTest(last=last, piece=piece):
                    self.check_pieces(1, (((1, 3), (2, 5), True, last), piece))

    def test_touching_at_what_belongs_to_neither(self):
        for first in (True, False):
            for last in (True, False):
                pieces = ((1, 3), (2, 5), first, False), ((2, 5), (1, 2), False, last)
                self.assertEqual(Lot(pieces).pieces, pieces)
        self.assertEqual(Lot((((0, 1), (1, 2), False, False), ((1, 2), (1, 1), False, False))).text, "(0/1,1/2) (1/2,1/1)")

    def test_all_pairs_of_small_pieces(self):
        ends = [(0, 1), (1, 3), (1, 2), (1, 1)]
        truths = (True, False)
        pieces = [(low, high, first, last) for low in ends for high in ends for first in truths for last in truths]
        for one in pieces:
            for other in pieces:
                row = one, other
                if are_pieces(row):
                    self.assertEqual(Lot(row).pieces, row)
                else:
                    self.check_pieces(1 if are_pieces((one,)) else 0, row)

    def test_ends_0_and_1(self):
        for piece in (((0, 1), (1, 1), True, False), ((0, 1), (1, 1), False, False), ((0, 1), (0, 1), True, True),
                      ((GREAT - 1, GREAT), (1, 1), True, False)):
            self.assertEqual(Lot((piece,)).pieces, (piece,))
        self.assertEqual(Lot(()).pieces, ())

    def test_what_was_passed_is_as_it_was(self):
        wrong = [[1, 3], [2, 5], True, False]
        self.check_pieces(None, wrong)
        self.check_pieces(0, (wrong,))
        self.assertEqual(wrong, [[1, 3], [2, 5], True, False])


class Lots(Wrong):

    def test_one_wrong(self):
        lot = Lot((GOOD,))
        for at, wrong in enumerate(WRONG_LOTS):
            with self.subTest(at=at):
                self.check(NotALot, wrong, has, wrong, (1, 3))
                self.check(NotALot, wrong, has, step=(1, 3), lot=wrong)
                for call in (inside, both, either):
                    self.check(NotALot, wrong, call, wrong, lot)
                    self.check(NotALot, wrong, call, lot, wrong)
                    self.check(NotALot, wrong, call, Lot(()), wrong)
                    self.check(NotALot, wrong, call, mate=lot, lot=wrong)
                    self.check(NotALot, wrong, call, mate=wrong, lot=lot)
                for call in (others, simplest):
                    self.check(NotALot, wrong, call, wrong)
                    self.check(NotALot, wrong, call, lot=wrong)

    def test_steps(self):
        for lot in (Lot(()), Lot((GOOD,))):
            for at, wrong in enumerate(WRONG_STEPS):
                with self.subTest(at=at):
                    self.check(InvalidStep, wrong, has, lot, wrong)
                    self.check(InvalidStep, wrong, has, step=wrong, lot=lot)

    def test_several_wrong(self):
        for at, wrong in enumerate(WRONG_LOTS):
            for behind in (None, (), [], Hostile(), (2, 4), "none"):
                with self.subTest(at=at):
                    self.check(NotALot, wrong, has, wrong, behind)
                    self.check(NotALot, wrong, has, step=behind, lot=wrong)
                    for call in (inside, both, either):
                        self.check(NotALot, wrong, call, wrong, behind)
                        self.check(NotALot, behind, call, mate=wrong, lot=behind)


class Sides(unittest.TestCase):

    def test_equal_to_nothing_else(self):
        for lot in (Lot(()), Lot((GOOD,))):
            for other in WRONG_LOTS + WRONG_PIECES:
                if not isinstance(other, (Hostile, Lot)):
                    self.assertIs(lot == other, False)
                    self.assertIs(lot != other, True)
            # Asked by the lot, it is not asked itself.
            self.assertIs(lot == Hostile(), False)

    def test_errors_are_not_right_ones(self):
        for wrong in (None, (None,)):
            with self.assertRaises(NotRight):
                Lot(wrong)


if __name__ == "__main__":
    unittest.main()
