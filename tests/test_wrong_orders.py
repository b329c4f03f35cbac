"""What is wrong for orders: each way in which a row is none, and numbers of marks out of bounds."""

import unittest

from rimorders.errors import InvalidNumber, InvalidOrder
from rimorders.orders import all_orders, broken_at, how_many_orders, steps_of, steps_of_some
from wrong import GREAT, NO_INTEGERS, Hostile, LooksLikeATuple, Wrong

OF_ALL = steps_of, broken_at
OF_ROWS = steps_of, steps_of_some, broken_at

# What is no mark within a tuple of marks, and what is no such tuple.
NO_MARKS = NO_INTEGERS + [-1, -2, 41, 42, -GREAT, GREAT]
NO_PLACES = [
    None, True, False, 0, 1, 3, "", "1", b"1", [], [1], {1}, {1: 1}, object(), int, Hostile(), LooksLikeATuple(), range(1, 3),
    (), ([1],), ((1,),), (1, [2]), (1, None), (None, 1), (2, 1), (1, 1), (3, 3), (1, 3, 2), (2, 3, 1), (1, 2, 2), (5, 5, 6),
    (1, 41), (-1, 1), (1, 2, True), (Hostile(), Hostile()), (1, Hostile()), tuple(range(42)), tuple(range(1, 42)),
    *[(mark,) for mark in NO_MARKS], *[(1, mark) for mark in NO_MARKS],
]


class OneWrong(Wrong):

    def check_row(self, index, row, calls=OF_ROWS):
        for call in calls:
            self.check_index(InvalidOrder, index, call, row)
            self.check_index(InvalidOrder, index, call, row=row)

    def test_no_tuples(self):
        wrong_ones = [thing for thing in NO_INTEGERS if not isinstance(thing, tuple)]
        for at, wrong in enumerate(wrong_ones + [0, 3, [(0,)], [(0,), (1,)], {(0,)}, {(0,): 1}, LooksLikeATuple(), iter(((0,),))]):
            with self.subTest(at=at):
                self.check_row(None, wrong)

    def test_no_elements(self):
        self.check_row(None, ())

    def test_tuples_by_themselves(self):
        for at, wrong in enumerate(NO_PLACES):
            with self.subTest(at=at):
                self.check_row(0, (wrong,))
                self.check_row(0, (wrong, (0,)))
                self.check_row(1, ((0,), wrong))
                self.check_row(1, ((0,), wrong, (30,)))
                self.check_row(2, ((0,), (30,), wrong))

    def test_beside_those_ahead(self):
        for row, index in ((((0,), (0,)), 1), (((0,), (1,), (0,)), 2), (((0, 2), (1, 2)), 1), (((0,), (1, 3), (2,), (3,)), 3),
                           (((0, 1, 2), (1,)), 1), (((0,), (1,), (1,), (0,)), 2), (((5,), (3,), (4, 5)), 2)):
            self.check_row(index, row)

    def test_first_wrong_one(self):
        self.check_row(0, (None, None))
        self.check_row(1, ((0,), None, (0,)))
        self.check_row(1, ((0,), (0,), None))
        # Ahead of what is told with "last".
        self.check_row(1, ((7,), None))
        self.check_row(2, ((3,), (7, 9), (9,)))
        self.check_row(2, ((0, 1), (7,), ()))

    def test_too_many_elements(self):
        row = tuple([(mark,) for mark in range(41)])
        for more in ((0,), (41,), (40,), None, ()):
            self.check_row(41, row + (more,))
        self.assertEqual(steps_of(row).text, "(0/1,1/40)")
        self.assertEqual(steps_of_some(row).text, "(0/1,1/40)")
        self.assertIsNone(broken_at(row))

    def test_missing_marks(self):
        for row in (((0,), (2,)), ((0, 2),), ((0,), (40,)), ((0,), (1,), (3,)), ((0, 1), (3, 4)), ((0,), (3,), (1,)),
                    tuple([(mark,) for mark in range(41) if mark != 39])):
            self.check_row(None, row, OF_ALL)
            self.assertEqual(steps_of_some(row), steps_of_some(row=row))

    def test_begins_with_another_one(self):
        for row in (((1,), (0,)), ((1, 2), (0,)), ((2,), (0,), (1,)), ((1,),), ((40,),), ((5,), (0,), (2,)), ((1,), (0, 2))):
            self.check_row(None, row, OF_ALL)
            self.assertEqual(steps_of_some(row), steps_of_some(row=row))

    def test_tuples_of_more_marks(self):
        for row, index in ((((0, 1),), 0), (((0, 3), (1, 4), (2,)), 0), (((0,), (1, 2)), 1), (((0,), (1,), (2, 3), (4, 5)), 2),
                           ((tuple(range(41)),), 0)):
            self.check_index(InvalidOrder, index, broken_at, row)
            self.check_index(InvalidOrder, index, broken_at, row=row)
        # Behind all else that is told with "last".
        for row in (((0, 2), (3,)), ((0, 2),), ((1, 2), (0,)), ((3, 4), (0, 1))):
            self.check_index(InvalidOrder, None, broken_at, row)

    def test_counts(self):
        for at, wrong in enumerate(NO_INTEGERS + [0, -1, -2, 2001, 2002, GREAT, -GREAT]):
            with self.subTest(at=at):
                self.check(InvalidNumber, wrong, how_many_orders, wrong)
                self.check(InvalidNumber, wrong, how_many_orders, count=wrong)
        for at, wrong in enumerate(NO_INTEGERS + [0, -1, -2, 13, 14, 41, 2000, GREAT, -GREAT]):
            with self.subTest(at=at):
                self.check(InvalidNumber, wrong, all_orders, wrong)
                self.check(InvalidNumber, wrong, all_orders, count=wrong)

    def test_what_was_passed_is_as_it_was(self):
        wrong = [[0], [1]]
        self.check_row(None, wrong)
        self.check_row(0, (wrong,))
        self.assertEqual(wrong, [[0], [1]])


class Bounds(unittest.TestCase):

    def test_just_within(self):
        self.assertEqual([how_many_orders(1), how_many_orders(2000) > 0, len(all_orders(1))], [1, True, 1])
        self.assertEqual(len(all_orders(12)), how_many_orders(12))
        self.assertEqual(steps_of_some(((40,), (0,))).text, steps_of_some(((0,), (40,))).text)


if __name__ == "__main__":
    unittest.main()
