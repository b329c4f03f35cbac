"""Which rows of marks some step makes, and all orders: rimorders.orders."""

import random
import unittest
from fractions import Fraction
from itertools import permutations
from math import gcd

from plain import (
    are_pieces, fractions_to, order_of, order_of_some, pair, pieces_from, points_of, steps_to, with_middles,
)
from rimorders.lots import Lot, has
from rimorders.orders import all_orders, broken_at, how_many_orders, steps_of, steps_of_some
from rimorders.steps import order

GREAT = 10 ** 30


def steps_alike(step, count):
    """The pieces of the steps that make the same order, by [8]: itself alone, or all between its neighbours."""
    if count == 1:
        return (((0, 1), (1, 1), True, False),)
    if step[1] < count:
        return ((step, step, True, True),)
    points = fractions_to(count - 1)
    low = max(point for point in points if point < Fraction(*step))
    high = min(point for point in points if point > Fraction(*step))
    return ((pair(low), pair(high), False, False),)


def rows_with(first, marks):
    """All rows of these marks, the first tuple with this one."""
    if not marks:
        yield (first,)
        return
    mark, *others = marks
    for row in rows_with(first, others):
        for at, place in enumerate(row):
            yield row[:at] + (tuple(sorted(place + (mark,))),) + row[at + 1:]
            yield row[:at + 1] + ((mark,),) + row[at + 1:]


def searched_broken(ring):
    many, first, last = len(ring), ring[1 % len(ring)], ring[-1]
    for mark in range(many):
        told = mark + first if mark < many - first else mark - last if mark >= last else mark + first - last
        if ring[(ring.index(mark) + 1) % many] != told:
            return mark
    return None


class Examples(unittest.TestCase):

    def test_example(self):
        self.assertEqual(
            [steps_of(((0,), (3,), (1,), (2,))).text, steps_of(((0, 3), (1, 4), (2,))).text,
             steps_of(((0,), (1,), (3,), (2,))).text, steps_of_some(((5,), (0,), (2,))).text],
            ['(1/3,1/2)', '[1/3]', 'none', '(0/1,1/5) (1/3,2/5) (1/2,3/5) (2/3,4/5)'],
        )
        self.assertEqual(
            [how_many_orders(3), how_many_orders(2000) > 10 ** 6, all_orders(3), broken_at(((0,), (1,), (3,), (2,))),
             broken_at(((0,), (3,), (1,), (2,)))],
            [4, True, (((0, 1, 2),), ((0,), (1,), (2,)), ((0, 2), (1,)), ((0,), (2,), (1,))), 1, None],
        )

    def test_by_name(self):
        self.assertEqual(steps_of(row=((0,), (3,), (1,), (2,))).text, "(1/3,1/2)")
        self.assertEqual(steps_of_some(row=((5,), (0,), (2,))).text, "(0/1,1/5) (1/3,2/5) (1/2,3/5) (2/3,4/5)")
        self.assertEqual([how_many_orders(count=3), len(all_orders(count=3)), broken_at(row=((0,), (1,), (3,), (2,)))], [4, 4, 1])


class StepsOf(unittest.TestCase):

    def check(self, step, count):
        told = steps_of(order_of(step, count))
        self.assertIs(type(told), Lot)
        self.assertEqual(told.pieces, steps_alike(step, count), (step, count))
        self.assertTrue(has(told, step))

    def test_all_small_steps(self):
        for step in steps_to(8):
            for count in range(1, 12):
                self.check(step, count)

    def test_more_marks(self):
        source = random.Random(33)
        steps = steps_to(60)
        for count in (12, 20, 30, 39, 40, 41):
            for step in source.sample(steps, 12) + [(0, 1), (1, 2), (1, 40), (39, 40), (1, 41), (40, 41), (20, 41), (34, 55)]:
                self.check(step, count)

    def test_great_steps(self):
        for step in ((1, GREAT), (GREAT - 1, GREAT), (GREAT // 2, GREAT + 1), (3 ** 60, 10 ** 59)):
            for count in (2, 3, 17, 41):
                self.check(step, count)

    def test_every_row_of_few_marks(self):
        for count in range(1, 6):
            places = with_middles(fractions_to(max(1, count - 1)))
            made = {order_of(pair(where), count): pair(where) for where in places}
            found = 0
            for row in rows_with((0,), list(range(count - 1, 0, -1))):
                told = steps_of(row)
                if row in made:
                    self.assertEqual(told.pieces, steps_alike(made[row], count))
                    found += 1
                else:
                    self.assertEqual(told.pieces, (), row)
                self.assertEqual(steps_of_some(row), told)
            self.assertEqual(found, len(made))

    def test_rows_that_no_step_makes(self):
        row = order_of((17, 41), 41)
        for one, other in ((1, 2), (1, 40), (7, 8), (20, 33), (39, 40)):
            marks = list(row)
            marks[one], marks[other] = marks[other], marks[one]
            self.assertEqual(steps_of(tuple(marks)).text, "none")
        for row in (((0,), (2,), (3,), (1,)), ((0, 1), (2,)), ((0, 2), (1,), (3,)), ((0, 2), (1, 4), (3,)), ((0, 4), (1, 2, 3)),
                    ((0, 3), (1, 4), (2, 5), (6,)), ((0,), tuple(range(1, 41))), ((0, 2), (3,), (1,))):
            self.assertEqual(steps_of(row).text, "none", row)

    def test_one_mark_and_all_at_one_place(self):
        self.assertEqual(steps_of(((0,),)).text, "[0/1,1/1)")
        for count in (2, 3, 40, 41):
            self.assertEqual(steps_of((tuple(range(count)),)).text, "[0/1]")


class StepsOfSome(unittest.TestCase):

    def check(self, row, marks):
        ways = {abs(mark - other) for mark in marks for other in marks if mark != other}
        places = with_middles(points_of(ways))
        told = steps_of_some(row)
        needed = pieces_from(places, lambda where: order_of_some(pair(where), row[0][0], marks) == row)
        self.assertEqual(told.pieces, needed, row)
        self.assertTrue(are_pieces(told.pieces))
        return needed

    def test_rows_of_steps(self):
        source = random.Random(34)
        steps = steps_to(41)
        for most in (5, 12, 40):
            for _ in range(25):
                marks = source.sample(range(most + 1), source.randrange(2, min(most, 7)))
                step = source.choice(steps)
                row = order_of_some(step, marks[0], marks)
                self.assertNotEqual(self.check(row, marks), ())
                self.assertTrue(has(steps_of_some(row), step))

    def test_every_order_of_three(self):
        for marks in ((0, 1, 2), (0, 2, 5), (1, 2, 4), (40, 38, 35), (3, 23, 40)):
            for one, other, third in permutations(marks):
                self.check(((one,), (other,), (third,)), marks)
                self.check((tuple(sorted((one, other))), (third,)), marks)
                self.check(((one,), tuple(sorted((other, third)))), marks)
            self.check((tuple(sorted(marks)),), marks)

    def test_other_rows(self):
        source = random.Random(35)
        for _ in range(60):
            marks = source.sample(range(9), source.randrange(4, 8))
            row = [[marks[0]]]
            for mark in marks[1:]:
                if source.randrange(4):
                    row.append([mark])
                else:
                    row[-1].append(mark)
            self.check(tuple(tuple(sorted(place)) for place in row), marks)

    def test_begins_anywhere(self):
        row = order_of((3, 8), 7)
        told = steps_of(row)
        for at in range(len(row)):
            self.assertEqual(steps_of_some(row[at:] + row[:at]), told)

    def test_one_and_two_marks(self):
        for mark in (0, 1, 40):
            self.assertEqual(steps_of_some(((mark,),)).text, "[0/1,1/1)")
        self.assertEqual(steps_of_some(((3,), (5,))).text, "(0/1,1/2) (1/2,1/1)")
        self.assertEqual(steps_of_some(((5,), (3,))).text, "(0/1,1/2) (1/2,1/1)")
        self.assertEqual(steps_of_some(((3, 5),)).text, "[0/1] [1/2]")
        self.assertEqual(len(steps_of_some(((0, 40),)).pieces), 40)


class AllOrders(unittest.TestCase):

    def test_listed_by_their_steps(self):
        for count in range(1, 13):
            rows = []
            for where in with_middles(fractions_to(max(1, count - 1))):
                row = order_of(pair(where), count)
                if not rows or rows[-1] != row:
                    rows.append(row)
            told = all_orders(count)
            self.assertEqual(told, tuple(rows))
            self.assertEqual([type(told), type(told[0]), type(told[0][0])], [tuple, tuple, tuple])
            self.assertEqual(how_many_orders(count), len(rows))
            self.assertEqual(len(set(rows)), len(rows))

    def test_orders_of_small_steps_are_among_them(self):
        steps = steps_to(23)
        for count in range(1, 13):
            self.assertEqual({order(step, count) for step in steps}, set(all_orders(count)))

    def test_one_mark(self):
        self.assertEqual([all_orders(1), how_many_orders(1)], [(((0,),),), 1])
        self.assertEqual([all_orders(2), how_many_orders(2)], [(((0, 1),), ((0,), (1,))), 2])

    def test_steps_of_them(self):
        widths = Fraction(0)
        for row in all_orders(9):
            lot = steps_of(row)
            self.assertEqual(len(lot.pieces), 1)
            widths += Fraction(*lot.width)
        self.assertEqual(widths, 1)


class HowMany(unittest.TestCase):

    def test_counted_fractions(self):
        # As many as there are fractions and stretches between them.
        for count in list(range(2, 45)) + [60]:
            self.assertEqual(how_many_orders(count), 2 * len(fractions_to(count - 1)[:-1]))

    def test_one_more_bottom_each_time(self):
        for count in (100, 257, 1024, 1999):
            more = 2 * len([top for top in range(count) if gcd(top, count) == 1])
            self.assertEqual(how_many_orders(count + 1) - how_many_orders(count), more)

    def test_most(self):
        # From neighbour to neighbour through all fractions with bottoms up to 1999.
        low, high, many = (0, 1), (1, 1999), 1
        while high != (1, 1):
            times = (1999 + low[1]) // high[1]
            low, high = high, (times * high[0] - low[0], times * high[1] - low[1])
            many += 1
        self.assertEqual(how_many_orders(2000), 2 * many)
        self.assertIs(type(how_many_orders(2000)), int)


class Broken(unittest.TestCase):

    def test_rows_of_steps(self):
        for step in steps_to(14) + [(17, 41), (1, GREAT), (GREAT - 1, GREAT), (3 ** 60, 10 ** 59)]:
            for count in (1, 2, 3, 7, 11, 14, 30, 41):
                if count <= step[1]:
                    self.assertIsNone(broken_at(order_of(step, count)))

    def test_two_marks_exchanged(self):
        source = random.Random(36)
        for step in ((3, 8), (5, 13), (17, 41), (1, 50), (GREAT - 1, GREAT), (13, 34)):
            for count in (3, 4, 5, 8, 13, 34, 41):
                if count > step[1]:
                    continue
                for _ in range(20):
                    ring = [marks[0] for marks in order_of(step, count)]
                    one, other = source.sample(range(1, count), 2)
                    ring[one], ring[other] = ring[other], ring[one]
                    self.assertEqual(broken_at(tuple((mark,) for mark in ring)), searched_broken(ring), ring)

    def test_every_row_of_few_marks(self):
        for count in range(1, 8):
            for marks in permutations(range(1, count)):
                ring = [0, *marks]
                told = broken_at(tuple((mark,) for mark in ring))
                self.assertEqual(told, searched_broken(ring), ring)
                if steps_of(tuple((mark,) for mark in ring)).pieces:
                    self.assertIsNone(told)

    def test_least_one(self):
        self.assertEqual(broken_at(((0,), (1,), (3,), (2,))), 1)
        self.assertEqual(broken_at(((0,), (2,), (3,), (1,))), 1)
        self.assertEqual(broken_at(((0,), (1,), (2,), (3,), (5,), (4,))), 3)
        self.assertEqual(broken_at(((0,), (1,), (3,), (2,), (4,))), 1)

    def test_one_mark_and_two(self):
        self.assertIsNone(broken_at(((0,),)))
        self.assertIsNone(broken_at(((0,), (1,))))


if __name__ == "__main__":
    unittest.main()
