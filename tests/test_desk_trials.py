"""Trials of a desk: trial and tried of rimorders.desks."""

import random
import unittest

from desk_model import Model, drawn_deed
from rimorders.desks import Desk
from rimorders.errors import Broken, InUse, InvalidClaim, NothingToUndo, UnknownName
from rimorders.lots import Lot
from test_desks import FIRST, THIRD, WHOLE, WIDE, desk_of, shown_by
from wrong import Wrong


class OwnError(Exception):
    pass


class Trials(Wrong):

    def setUp(self):
        self.desk = desk_of(FIRST, a="[1/3,2/5)", b="none")
        self.desk.lift(0)
        self.before = shown_by(self.desk)

    def check_back(self):
        self.assertEqual(shown_by(self.desk), self.before)
        # What can be taken back is what could be, too.
        with self.assertRaises(OwnError):
            with self.desk.trial():
                self.desk.undo()
                self.assertEqual(self.desk.claims, (FIRST,))
                raise OwnError
        self.assertEqual(shown_by(self.desk), self.before)

    def test_rows_that_end_well(self):
        with self.desk.trial() as held:
            self.assertIs(held, self.desk)
            self.desk.put("c", WIDE)
            held.claim(("inside", "b", "c"))
            held.drop("a")
        self.assertEqual([self.desk.names, self.desk.claims, self.desk.changes], [("b", "c"), (("inside", "b", "c"),), 7])
        for _ in range(3):
            self.desk.undo()
        self.check_back()

    def test_taken_back_within(self):
        with self.desk.trial() as held:
            held.undo()
            held.undo()
        self.assertEqual([self.desk.claims, self.desk.changes], [(), 2])
        with self.assertRaises(NothingToUndo):
            with self.desk.trial():
                for _ in range(3):
                    self.desk.undo()
        self.assertEqual([self.desk.claims, self.desk.changes], [(), 2])

    def test_errors_of_the_desk(self):
        for error, deed in (
            (Broken, lambda desk: desk.put("a", WHOLE)), (InUse, lambda desk: desk.drop("a")),
            (UnknownName, lambda desk: desk.thing("z")),
            (InvalidClaim, lambda desk: desk.claim(None)), (NothingToUndo, lambda desk: [desk.undo() for _ in range(9)]),
        ):
            with self.assertRaises(error):
                with self.desk.trial() as held:
                    held.put("c", WIDE)
                    held.claim(FIRST)
                    held.drop("b")
                    deed(held)
            self.check_back()

    def test_errors_of_the_rows(self):
        for error in (OwnError("own"), KeyError(3), ZeroDivisionError(), KeyboardInterrupt(), SystemExit(0), GeneratorExit()):
            with self.assertRaises(type(error)) as caught:
                with self.desk.trial() as held:
                    held.put("a", WIDE)
                    held.drop("b")
                    held.undo()
                    raise error
            self.assertIs(caught.exception, error)
            self.check_back()

    def test_errors_that_are_caught_within(self):
        with self.desk.trial() as held:
            held.claim(FIRST)
            self.raised(Broken, held.put, "a", WHOLE)
            held.put("c", WHOLE)
        self.assertEqual([self.desk.claims, self.desk.names, self.desk.changes], [(FIRST,), ("a", "b", "c"), 6])

    def test_other_ways_out(self):
        def returning():
            with self.desk.trial() as held:
                held.put("c", WIDE)
                return held.changes

        self.assertEqual(returning(), 5)
        for name in ("d", "e"):
            with self.desk.trial() as held:
                held.put(name, WIDE)
                continue
        for _ in range(2):
            with self.desk.trial() as held:
                held.put("f", WIDE)
                break
        self.assertEqual([self.desk.names, self.desk.changes], [("a", "b", "c", "d", "e", "f"), 8])

    def test_begins_with_its_rows(self):
        trial = self.desk.trial()
        self.desk.put("c", WIDE)
        with self.assertRaises(OwnError):
            with trial:
                self.desk.drop("c")
                raise OwnError
        self.assertEqual(self.desk.names, ("a", "b", "c"))
        self.desk.undo()
        self.check_back()

    def test_inner_ones_that_end_well(self):
        with self.assertRaises(OwnError):
            with self.desk.trial():
                with self.desk.trial():
                    self.desk.put("c", WIDE)
                self.assertIn("c", self.desk)
                raise OwnError
        self.check_back()
        with self.desk.trial():
            with self.desk.trial():
                self.desk.put("c", WIDE)
            self.desk.put("d", WIDE)
        self.assertEqual([self.desk.names, self.desk.changes], [("a", "b", "c", "d"), 6])

    def test_inner_ones_that_do_not(self):
        with self.desk.trial():
            self.desk.put("c", WIDE)
            inner = shown_by(self.desk)
            with self.assertRaises(Broken):
                with self.desk.trial() as held:
                    held.undo()
                    held.claim(FIRST)
                    held.put("a", WHOLE)
            self.assertEqual(shown_by(self.desk), inner)
        self.assertEqual([self.desk.names, self.desk.claims, self.desk.changes], [("a", "b", "c"), (), 5])

    def test_used_again_and_within_itself(self):
        trial = self.desk.trial()
        for _ in range(2):
            with self.assertRaises(OwnError):
                with trial as held:
                    self.assertIs(held, self.desk)
                    held.put("c", WIDE)
                    outer = shown_by(held)
                    with self.assertRaises(Broken):
                        with trial:
                            held.claim(FIRST)
                            with trial:
                                held.put("d", WHOLE)
                            held.put("a", WHOLE)
                    self.assertEqual(shown_by(held), outer)
                    with trial:
                        held.drop("b")
                    self.assertEqual(held.names, ("a", "c"))
                    raise OwnError
            self.check_back()
        with trial:
            with trial:
                self.desk.put("c", WIDE)
        self.assertEqual([self.desk.names, self.desk.changes], [("a", "b", "c"), 5])

    def test_drawn_ones(self):
        source = random.Random(93)
        desk, model = Desk(), Model()
        trials = [desk.trial() for _ in range(2)]
        found = []

        def rows(depth):
            for _ in range(source.randrange(5)):
                deed, *given = drawn_deed(source, model)
                if model.expected(deed, *given) is None:
                    getattr(desk, deed)(*given)
                if depth < 3 and source.random() < 0.4:
                    go_on(depth + 1)

        def go_on(depth):
            before, error = (shown_by(desk), model.lots, model.claims, model.past), source.random() < 0.4
            try:
                with source.choice(trials):
                    rows(depth)
                    if error:
                        raise OwnError
            except OwnError:
                model.lots, model.claims, model.past = before[1:]
                self.assertEqual(shown_by(desk), before[0])
            found.append(error)
            self.assertEqual([desk.names, desk.claims, desk.changes],
                             [tuple(sorted(model.lots)), tuple(model.claims), len(model.past)])

        for _ in range(80):
            go_on(0)
        self.assertGreater(min(found.count(True), found.count(False)), 30)


class Tried(Wrong):

    def setUp(self):
        self.desk = desk_of(FIRST, a="[1/3,2/5)")
        self.before = shown_by(self.desk)

    def test_what_the_action_returns(self):
        thing = object()
        for told in (None, 3, "sure", (1, 2), thing, self.desk, [], False):
            self.assertIs(self.desk.tried(lambda desk: told), told)
            self.assertIs(self.desk.tried(action=lambda desk: told), told)
        self.assertEqual(shown_by(self.desk), self.before)

    def test_what_is_done_stays(self):
        calls = []

        def action(desk):
            calls.append(desk)
            desk.put("b", WIDE)
            return desk.tried(lambda held: held.claim(("order", "b", 1)) or held.changes)

        self.assertEqual(self.desk.tried(action), 4)
        self.assertEqual(len(calls), 1)
        self.assertIs(calls[0], self.desk)
        self.assertEqual([self.desk.names, self.desk.claims], [("a", "b"), (FIRST, ("order", "b", 1))])
        self.desk.undo()
        self.desk.undo()
        self.assertEqual(shown_by(self.desk), self.before)

    def test_exceptions_are_passed_on(self):
        error = OwnError()

        def action(desk):
            desk.put("b", WIDE)
            desk.tried(lambda held: held.lift(0))
            raise error

        with self.assertRaises(OwnError) as caught:
            self.desk.tried(action)
        self.assertIs(caught.exception, error)
        self.assertEqual(shown_by(self.desk), self.before)
        raised = self.raised(Broken, self.desk.tried, lambda desk: desk.put("b", THIRD) or desk.put("a", WHOLE))
        self.assertEqual((raised.index, raised.shown), (0, "[0/1] [1/2,1/1)"))
        self.assertEqual(shown_by(self.desk), self.before)

    def test_other_desks(self):
        other = Desk()

        def action(desk):
            other.put("b", THIRD)
            desk.put("a", WHOLE)

        self.raised(Broken, self.desk.tried, action)
        self.assertEqual(shown_by(self.desk), self.before)
        self.assertEqual([other.names, other.changes], [("b",), 1])

    def test_objects(self):
        trial = self.desk.trial()
        self.assertTrue(trial and trial == trial and not trial != trial)
        self.assertFalse(trial == self.desk.trial() or trial == self.desk)


if __name__ == "__main__":
    unittest.main()
