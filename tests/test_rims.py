"""Sightings noted one after the other: Rim of rimorders.rims, without its trials."""

import random
import unittest
from fractions import Fraction

from drawn import small_sighting, told_by
from plain import belongs, fractions_to, is_met, pair, pieces_from, steps_to, with_middles
from rimorders.errors import InvalidIndex, InvalidSighting, NoStep, NothingToUndo, TooMany
from rimorders.lots import Lot
from rimorders.rims import Rim
from rimorders.sightings import lot_of_all
from rimorders.telling import judge
from wrong import GREAT, NO_INTEGERS, WRONG_SIGHTINGS, Hostile, Wrong

SMALL = with_middles(fractions_to(10))
STEPS = steps_to(25)
NOTED = ("turn", 0, 1, 2), ("turn", 0, 3, 1), ("next", 4, 0, 3), ("within", 0, 1, (1, 3), (1, 2))
RIGHT = {}


def right_places(sighting):
    if sighting not in RIGHT:
        RIGHT[sighting] = {where for where in SMALL if is_met(sighting, pair(where))}
    return RIGHT[sighting]


def places_left(sightings):
    return set(SMALL).intersection(*[right_places(sighting) for sighting in sightings])


def shown_by(rim):
    """All that a rim tells of itself."""
    return rim.sightings, rim.lot.pieces, rim.simplest, rim.changes


def rim_of(*sightings):
    rim = Rim()
    for sighting in sightings:
        rim.note(sighting)
    return rim


class Examples(Wrong):

    def test_example(self):
        rim = Rim()
        self.assertEqual(
            [rim.note(("turn", 0, 1, 2)), rim.note(("turn", 0, 3, 1)), rim.lot.text, rim.simplest,
             rim.judge(("next", 4, 0, 3)), rim.forget(0), rim.lot.text, rim.undo(), rim.changes],
            [None, None, '(1/3,1/2)', (2, 5), 'sure', None, '(1/3,1/2) (2/3,1/1)', None, 2],
        )
        self.raised(NoStep, rim.note, ("on", 0, 3))
        self.assertEqual(rim.sightings, (("turn", 0, 1, 2), ("turn", 0, 3, 1)))

    def test_by_name(self):
        rim = Rim()
        self.assertIsNone(rim.note(sighting=("turn", 0, 1, 2)))
        self.assertIsNone(rim.note(sighting=("turn", 0, 3, 1)))
        self.assertEqual(rim.judge(sighting=("next", 4, 0, 3)), "sure")
        self.assertIsNone(rim.forget(index=0))
        self.assertEqual(rim.sightings, (("turn", 0, 3, 1),))

    def test_at_first(self):
        rim = Rim()
        self.assertEqual(shown_by(rim), ((), (((0, 1), (1, 1), True, False),), (0, 1), 0))
        self.raised(NothingToUndo, rim.undo)
        self.check(InvalidIndex, 0, rim.forget, 0)
        self.assertEqual(shown_by(rim), ((), (((0, 1), (1, 1), True, False),), (0, 1), 0))


class Deeds(Wrong):

    def check_rim(self, rim, sightings, changes):
        """All it tells is what these sightings make, worked out anew."""
        left = places_left(sightings)
        self.assertEqual(rim.sightings, sightings)
        self.assertIs(type(rim.sightings), tuple)
        self.assertIs(type(rim.lot), Lot)
        self.assertEqual(rim.lot.pieces, pieces_from(SMALL, lambda where: where in left))
        self.assertEqual(rim.simplest, [step for step in STEPS if belongs(rim.lot.pieces, Fraction(*step))][0])
        self.assertEqual((type(rim.changes), rim.changes), (int, changes))

    def do(self, source, rim, told, past):
        """A drawn deed at the rim, which may be refused; returns the sightings behind it."""
        deed = source.choice(("note", "note", "note", "told", "told", "forget", "undo", "wrong"))
        if deed in ("note", "told"):
            sighting = told_by(source, (3, 8), small_sighting) if deed == "told" else small_sighting(source)
            if len(told) == 20:
                self.assertEqual(self.raised(TooMany, rim.note, sighting).most, 20)
                return told
            if not places_left(told + (sighting,)):
                self.raised(NoStep, rim.note, sighting)
                return told
            self.assertIsNone(rim.note(sighting))
        elif deed == "forget" and told:
            at = source.randrange(len(told))
            self.assertIsNone(rim.forget(at))
            past.append(told)
            return told[:at] + told[at + 1:]
        elif deed == "undo":
            if not past:
                self.raised(NothingToUndo, rim.undo)
                return told
            self.assertIsNone(rim.undo())
            return past.pop()
        else:
            wrong = source.choice((len(told), -1, None, True))
            self.check(InvalidIndex, wrong, rim.forget, wrong)
            self.check(InvalidSighting, wrong, rim.note, wrong)
            return told
        past.append(told)
        return told + (sighting,)

    def test_rows_of_deeds(self):
        source = random.Random(80)
        most = 0
        for _ in range(15):
            rim, told, past = Rim(), (), []
            for _ in range(90):
                told = self.do(source, rim, told, past)
                self.check_rim(rim, told, len(past))
                most = max(most, len(told))
        self.assertEqual(most, 20)

    def test_rims_beside_one_another(self):
        source = random.Random(81)
        rims = [(Rim(), []) for _ in range(4)]
        told = [()] * 4
        for _ in range(120):
            at = source.randrange(4)
            told[at] = self.do(source, rims[at][0], told[at], rims[at][1])
            for (rim, past), sightings in zip(rims, told):
                self.assertEqual((rim.sightings, rim.changes), (sightings, len(past)))
        for (rim, past), sightings in zip(rims, told):
            self.check_rim(rim, sightings, len(past))

    def test_each_undo(self):
        source = random.Random(82)
        for _ in range(10):
            rim, deeds, before = Rim(), [], [shown_by(Rim())]
            while len(deeds) < 15:
                if rim.sightings and source.random() < 0.3:
                    deed = rim.forget, source.randrange(len(rim.sightings))
                else:
                    deed = rim.note, told_by(source, (3, 8), small_sighting)
                deed[0](deed[1])
                deeds.append(deed)
                before.append(shown_by(rim))
            for _ in range(2):
                for at in range(15, 0, -1):
                    self.assertEqual(shown_by(rim), before[at])
                    self.assertIsNone(rim.undo())
                self.assertEqual(shown_by(rim), before[0])
                self.raised(NothingToUndo, rim.undo)
                self.assertEqual(shown_by(rim), before[0])
                # The same deeds anew lead to the same.
                for call, given in deeds:
                    call(given)
                self.assertEqual(shown_by(rim), before[15])

    def test_undone_ones_are_gone(self):
        rim = rim_of(*NOTED[:2])
        rim.undo()
        rim.note(NOTED[2])
        self.assertEqual([rim.sightings, rim.changes], [(NOTED[0], NOTED[2]), 2])
        rim.undo()
        rim.undo()
        self.assertEqual([rim.sightings, rim.changes], [(), 0])
        self.raised(NothingToUndo, rim.undo)

    def test_one_sighting_several_times(self):
        rim = rim_of(NOTED[0], NOTED[0], NOTED[1], NOTED[0])
        rim.forget(1)
        self.assertEqual(rim.sightings, (NOTED[0], NOTED[1], NOTED[0]))
        rim.forget(0)
        self.assertEqual([rim.sightings, rim.lot.text], [(NOTED[1], NOTED[0]), "(1/3,1/2)"])
        rim.forget(1)
        self.assertEqual([rim.sightings, rim.changes], [(NOTED[1],), 7])

    def test_each_index(self):
        for at in range(4):
            rim = rim_of(*NOTED)
            rim.forget(at)
            left = NOTED[:at] + NOTED[at + 1:]
            self.assertEqual([rim.sightings, rim.lot, rim.changes], [left, lot_of_all(left), 5])

    def test_noted_if_some_step_is_left(self):
        source = random.Random(83)
        found = []
        for _ in range(150):
            rim, told = Rim(), ()
            for _ in range(5):
                sighting = small_sighting(source)
                fits = len(places_left(told + (sighting,))) > 0
                try:
                    rim.note(sighting)
                    self.assertTrue(fits, (told, sighting))
                    told += (sighting,)
                except NoStep:
                    self.assertFalse(fits, (told, sighting))
                found.append(fits)
        self.assertGreater(found.count(True), 100)
        self.assertGreater(found.count(False), 100)

    def test_a_single_step_left(self):
        rim = rim_of(("on", 0, 3), ("turn", 0, 1, 2))
        self.assertEqual([rim.lot.text, rim.simplest], ["[1/3]", (1, 3)])
        self.raised(NoStep, rim.note, ("turn", 0, 2, 1))
        self.assertEqual([rim.lot.text, rim.changes], ["[1/3]", 2])

    def test_judge(self):
        source = random.Random(84)
        for _ in range(40):
            rim = rim_of(*[told_by(source, (3, 8), small_sighting) for _ in range(source.randrange(4))])
            before = shown_by(rim)
            sighting = small_sighting(source)
            self.assertEqual(rim.judge(sighting), judge(rim.lot, sighting))
            self.assertEqual(shown_by(rim), before)


class Twenty(Wrong):

    def setUp(self):
        self.rim = rim_of(*[NOTED[at % 3] for at in range(20)])
        self.before = shown_by(self.rim)

    def test_one_more(self):
        # Ahead of NoStep, behind InvalidSighting.
        for sighting in (NOTED[0], ("on", 0, 3), ("turn", 0, 2, 1)):
            self.assertEqual(self.raised(TooMany, self.rim.note, sighting).most, 20)
            self.assertEqual(self.raised(TooMany, self.rim.note, sighting=sighting).most, 20)
        for wrong in (None, ("turn", 0, 0, 1), ["turn", 0, 1, 2], Hostile()):
            self.check(InvalidSighting, wrong, self.rim.note, wrong)
        self.assertEqual(shown_by(self.rim), self.before)
        self.assertEqual([len(self.rim.sightings), self.rim.changes], [20, 20])

    def test_place_for_another_one(self):
        self.rim.forget(19)
        self.raised(NoStep, self.rim.note, ("on", 0, 3))
        self.rim.note(NOTED[3])
        self.raised(TooMany, self.rim.note, ("on", 0, 3))
        self.assertEqual([self.rim.sightings[19], self.rim.changes], [NOTED[3], 22])
        self.rim.undo()
        self.rim.undo()
        self.assertEqual(shown_by(self.rim), self.before)
        self.rim.undo()
        self.assertEqual(len(self.rim.sightings), 19)


class Objects(unittest.TestCase):

    def test_equal_to_itself_alone(self):
        rim, other = rim_of(NOTED[0]), rim_of(NOTED[0])
        self.assertTrue(rim == rim and not rim != rim)
        for thing in (other, Rim(), None, True, 0, "", (), rim.sightings, rim.lot, Lot(()), Rim, object(), [rim]):
            self.assertIs(rim == thing, False)
            self.assertIs(rim != thing, True)
            self.assertIs(thing == rim, False)
            self.assertIs(thing != rim, True)
        self.assertFalse(Rim() == Rim())

    def test_true(self):
        self.assertTrue(Rim())
        self.assertTrue(rim_of(NOTED[0]))

    def test_handed_out_ones_stay(self):
        rim = rim_of(NOTED[0])
        sightings, lot = rim.sightings, rim.lot
        pieces, text = lot.pieces, lot.text
        rim.note(NOTED[1])
        rim.forget(0)
        rim.undo()
        rim.undo()
        rim.undo()
        self.assertEqual([sightings, lot.pieces, lot.text], [(NOTED[0],), pieces, text])

    def test_the_same_as_long_as_nothing_changes(self):
        rim = rim_of(*NOTED)
        self.assertEqual(shown_by(rim), shown_by(rim))
        rim.judge(NOTED[0])
        self.assertEqual(shown_by(rim), shown_by(rim_of(*NOTED)))


class WrongOnes(Wrong):

    def setUp(self):
        self.rims = [Rim(), rim_of(*NOTED[:2])]
        self.before = [shown_by(rim) for rim in self.rims]

    def tearDown(self):
        self.assertEqual([shown_by(rim) for rim in self.rims], self.before)

    def test_sightings(self):
        for rim in self.rims:
            for at, wrong in enumerate(WRONG_SIGHTINGS):
                with self.subTest(at=at):
                    self.check(InvalidSighting, wrong, rim.note, wrong)
                    self.check(InvalidSighting, wrong, rim.note, sighting=wrong)
                    self.check(InvalidSighting, wrong, rim.judge, wrong)
                    self.check(InvalidSighting, wrong, rim.judge, sighting=wrong)

    def test_indexes(self):
        for rim in self.rims:
            for at, wrong in enumerate(NO_INTEGERS + [len(rim.sightings), 2, 3, 20, -1, -2, -3, GREAT, -GREAT]):
                with self.subTest(at=at):
                    self.check(InvalidIndex, wrong, rim.forget, wrong)
                    self.check(InvalidIndex, wrong, rim.forget, index=wrong)


if __name__ == "__main__":
    unittest.main()
