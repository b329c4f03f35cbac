"""Trials of a rim: trial and tried of rimorders.rims."""

import random
import unittest

from drawn import small_sighting, told_by
from rimorders.errors import InvalidSighting, NoStep, NothingToUndo
from rimorders.rims import Rim
from test_rims import NOTED, rim_of, shown_by
from wrong import Wrong


class OwnError(Exception):
    pass


class Trials(Wrong):

    def setUp(self):
        self.rim = rim_of(*NOTED[:2])
        self.rim.forget(1)
        self.before = shown_by(self.rim)

    def check_back(self):
        self.assertEqual(shown_by(self.rim), self.before)
        # What can be taken back is what could be, too.
        with self.rim.trial():
            self.rim.undo()
            self.assertEqual(self.rim.sightings, NOTED[:2])
        self.assertEqual(shown_by(self.rim), self.before)

    def test_rows_that_end_well(self):
        with self.rim.trial() as held:
            self.assertIs(held, self.rim)
            self.rim.note(NOTED[2])
            held.note(NOTED[3])
            self.assertEqual([self.rim.sightings, self.rim.changes], [(NOTED[0], NOTED[2], NOTED[3]), 5])
        self.check_back()

    def test_rows_without_deeds(self):
        with self.rim.trial():
            pass
        self.check_back()

    def test_taken_back_within(self):
        with self.rim.trial() as held:
            for _ in range(3):
                held.undo()
            self.raised(NothingToUndo, held.undo)
            self.assertEqual([held.sightings, held.changes], [(), 0])
            held.note(("on", 0, 7))
            self.assertEqual(held.changes, 1)
        self.check_back()

    def test_errors_of_the_rim(self):
        for error, deed in ((NoStep, lambda rim: rim.note(("turn", 0, 2, 1))), (InvalidSighting, lambda rim: rim.note(None)),
                            (NothingToUndo, lambda rim: [rim.undo() for _ in range(9)])):
            with self.assertRaises(error):
                with self.rim.trial() as held:
                    held.note(NOTED[1])
                    deed(held)
            self.check_back()
            with self.assertRaises(error):
                self.rim.tried(deed)
            self.check_back()

    def test_errors_of_the_rows(self):
        for error in (OwnError("own"), KeyError(3), ZeroDivisionError(), KeyboardInterrupt(), SystemExit(2), GeneratorExit()):
            with self.assertRaises(type(error)) as caught:
                with self.rim.trial() as held:
                    held.note(NOTED[2])
                    raise error
            self.assertIs(caught.exception, error)
            self.check_back()

    def test_other_ways_out(self):
        def returning():
            with self.rim.trial() as held:
                held.note(NOTED[2])
                return held.changes

        self.assertEqual(returning(), 4)
        self.check_back()
        for _ in range(3):
            with self.rim.trial() as held:
                held.note(NOTED[2])
                continue
        self.check_back()
        for _ in range(3):
            with self.rim.trial() as held:
                held.note(NOTED[2])
                break
        self.check_back()

    def test_begins_with_its_rows(self):
        # Not when it is made.
        trial = self.rim.trial()
        self.rim.note(NOTED[2])
        with trial:
            self.rim.note(NOTED[3])
        self.assertEqual([self.rim.sightings, self.rim.changes], [(NOTED[0], NOTED[2]), 4])
        self.rim.undo()
        self.check_back()

    def test_trials_within_trials(self):
        with self.rim.trial():
            self.rim.note(NOTED[1])
            middle = shown_by(self.rim)
            with self.rim.trial():
                self.rim.forget(0)
                inner = shown_by(self.rim)
                with self.assertRaises(OwnError):
                    with self.rim.trial():
                        self.rim.undo()
                        raise OwnError
                self.assertEqual(shown_by(self.rim), inner)
            self.assertEqual(shown_by(self.rim), middle)
            self.rim.note(NOTED[2])
        self.check_back()

    def test_used_again(self):
        trial = self.rim.trial()
        for sighting in NOTED:
            with trial as held:
                self.assertIs(held, self.rim)
                held.note(sighting)
                self.assertEqual(held.changes, 4)
            self.check_back()
        with self.assertRaises(OwnError):
            with trial:
                self.rim.undo()
                raise OwnError
        self.check_back()
        self.rim.note(NOTED[2])
        with trial:
            self.rim.undo()
        self.assertEqual(self.rim.sightings, (NOTED[0], NOTED[2]))

    def test_used_within_itself(self):
        trial = self.rim.trial()
        with trial:
            self.rim.note(NOTED[1])
            outer = shown_by(self.rim)
            with trial as held:
                self.assertIs(held, self.rim)
                held.note(NOTED[2])
                inner = shown_by(self.rim)
                with self.assertRaises(OwnError):
                    with trial:
                        held.undo()
                        held.undo()
                        raise OwnError
                self.assertEqual(shown_by(self.rim), inner)
            self.assertEqual(shown_by(self.rim), outer)
            with trial:
                self.rim.undo()
            self.assertEqual(shown_by(self.rim), outer)
        self.check_back()

    def test_drawn_ones(self):
        source = random.Random(85)
        trials = [self.rim.trial() for _ in range(3)]

        def go_on(depth):
            before = shown_by(self.rim)
            error = source.random() < 0.4
            try:
                with source.choice(trials):
                    for _ in range(source.randrange(3)):
                        self.rim.note(told_by(source, (2, 5), small_sighting))
                        if depth < 4:
                            go_on(depth + 1)
                        if source.random() < 0.3:
                            self.rim.undo()
                    if error:
                        raise OwnError
            except OwnError:
                self.assertTrue(error)
            self.assertEqual(shown_by(self.rim), before)

        for _ in range(60):
            go_on(0)
        self.check_back()


class Tried(Wrong):

    def setUp(self):
        self.rim = rim_of(*NOTED[:2])
        self.before = shown_by(self.rim)

    def test_what_the_action_returns(self):
        thing = object()
        for told in (None, 3, "sure", (1, 2), thing, self.rim, [], False):
            self.assertIs(self.rim.tried(lambda rim: told), told)
            self.assertIs(self.rim.tried(action=lambda rim: told), told)
        self.assertEqual(self.rim.tried(lambda rim: rim.note(NOTED[2]) or rim.lot.text), "(1/3,1/2)")
        self.assertEqual(shown_by(self.rim), self.before)

    def test_called_once_with_the_rim(self):
        calls = []

        def action(rim):
            calls.append((rim, rim.note(NOTED[3]), rim.sightings))
            return len(calls)

        self.assertEqual(self.rim.tried(action), 1)
        self.assertIs(calls[0][0], self.rim)
        self.assertEqual(calls[0][1:], (None, NOTED[:2] + NOTED[3:]))
        self.assertEqual(shown_by(self.rim), self.before)

    def test_exceptions_are_passed_on(self):
        error = OwnError()

        def action(rim):
            rim.forget(0)
            raise error

        with self.assertRaises(OwnError) as caught:
            self.rim.tried(action)
        self.assertIs(caught.exception, error)
        self.assertEqual(shown_by(self.rim), self.before)

    def test_tried_within(self):
        def outer(rim):
            rim.note(NOTED[2])
            return rim.tried(lambda held: held.forget(0) or held.changes), rim.changes

        self.assertEqual(self.rim.tried(outer), (4, 3))
        self.assertEqual(shown_by(self.rim), self.before)
        with self.rim.trial():
            self.rim.undo()
            self.assertEqual(self.rim.tried(outer), (3, 2))
            self.assertEqual(self.rim.changes, 1)
        self.assertEqual(shown_by(self.rim), self.before)

    def test_other_rims(self):
        other = Rim()

        def action(rim):
            rim.note(NOTED[2])
            other.note(NOTED[3])

        self.rim.tried(action)
        self.assertEqual(shown_by(self.rim), self.before)
        self.assertEqual([other.sightings, other.changes], [NOTED[3:], 1])

    def test_objects(self):
        trial = self.rim.trial()
        self.assertTrue(trial and trial == trial and not trial != trial)
        self.assertFalse(trial == self.rim.trial() or trial == self.rim)


if __name__ == "__main__":
    unittest.main()
