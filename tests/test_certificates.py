"""Claims with papers: rimorders.certificates, beside the checker."""

import random
import unittest
from fractions import Fraction

from drawn import random_sighting, small_sighting, told_by
from plain import neighbours, order_of, pair, steps_to
from proofs import all_steps, changed, fit, is_paper, verdict
from rimorders.certificates import certify_fit, certify_judged, certify_parting
from rimorders.checker import accepts
from rimorders.errors import InvalidNumber, InvalidSighting, InvalidSightings, InvalidStep, NoStep
from rimorders.steps import parting
from wrong import GREAT, NO_INTEGERS, WRONG_SIGHTINGS, WRONG_STEPS, Hostile, LooksLikeATuple, Wrong

TURNS = ("turn", 0, 1, 2), ("turn", 0, 3, 1)
QUARREL = ("turn", 0, 1, 2), ("turn", 0, 2, 1)


class Certified(Wrong):

    def check_pair(self, told, word, *about):
        """It is a claim with this word about just this, and a paper that is accepted."""
        self.assertEqual((type(told), len(told)), (tuple, 2))
        claim, paper = told
        self.assertEqual(claim, (word, *about))
        self.assertIs(type(claim), tuple)
        self.assertIs(accepts(claim, paper), True, told)
        self.assertTrue(is_paper(claim, paper), told)
        for other in changed(paper):
            self.assertIs(accepts(claim, other), is_paper(claim, other), (claim, paper, other))


class Examples(Certified):

    def test_example(self):
        self.assertEqual(
            [certify_fit((("turn", 0, 1, 2), ("on", 0, 3)))[1],
                certify_fit((("on", 0, 2), ("on", 0, 3), ("turn", 0, 1, 2)))[0][0],
             certify_judged((("turn", 0, 1, 2),), ("next", 3, 0, 1))[0][0], certify_parting((3, 8), (2, 5), 5)[0][0]],
            [(1, 3), 'none', 'sure', 'alike'],
        )

    def test_by_name(self):
        self.assertEqual(certify_fit(sightings=QUARREL), (("none", QUARREL), ()))
        self.assertEqual(certify_judged(sighting=("next", 4, 0, 3), sightings=TURNS), (("sure", TURNS, ("next", 4, 0, 3)), ()))
        self.assertEqual(certify_parting(count=6, other=(2, 5), one=(3, 8)), (("parts", (3, 8), (2, 5), 6), (2, 5)))


class Fit(Certified):

    def check_fit(self, sightings):
        word = "fits" if any(fit(sightings, step) for step in all_steps(*sightings)) else "none"
        self.check_pair(certify_fit(sightings), word, sightings)
        return word

    def test_small_ones(self):
        source = random.Random(110)
        found = [self.check_fit(tuple([small_sighting(source) for _ in range(source.randrange(7))])) for _ in range(120)]
        self.assertGreater(min(found.count("fits"), found.count("none")), 20)

    def test_all_sightings(self):
        source = random.Random(111)
        for many in (1, 2, 3, 4):
            self.check_fit(tuple([random_sighting(source) for _ in range(many)]))

    def test_none_of_them_and_twenty(self):
        source = random.Random(112)
        self.assertEqual(self.check_fit(()), "fits")
        for step in ((3, 8), (1, 3), (0, 1), (7, 9)):
            self.assertEqual(self.check_fit(tuple([told_by(source, step, small_sighting) for _ in range(20)])), "fits")
        self.assertEqual(self.check_fit(QUARREL * 10), "none")
        self.assertEqual(self.check_fit(QUARREL[:1] * 19 + QUARREL[1:]), "none")


class Judged(Certified):

    def check_judged(self, sightings, sighting):
        word = verdict(sightings, sighting)
        if word is None:
            self.raised(NoStep, certify_judged, sightings, sighting)
        elif word == "never":
            self.assertIsNone(certify_judged(sightings, sighting))
        else:
            self.check_pair(certify_judged(sightings, sighting), word, sightings, sighting)
        return word

    def test_small_ones(self):
        source = random.Random(113)
        found = []
        for _ in range(250):
            sightings = tuple([small_sighting(source) for _ in range(source.randrange(5))])
            found.append(self.check_judged(sightings, small_sighting(source)))
        for word in ("sure", "open", "never", None):
            self.assertGreater(found.count(word), 15)

    def test_all_sightings(self):
        source = random.Random(114)
        for _ in range(12):
            self.check_judged(tuple([random_sighting(source, 15) for _ in range(source.randrange(3))]),
                              random_sighting(source, 15))

    def test_none_of_them_and_twenty(self):
        source = random.Random(115)
        for sighting in (("turn", 0, 1, 2), ("on", 0, 1), ("within", 0, 1, (0, 1), (1, 1)), ("next", 2, 0, 1)):
            self.assertEqual(self.check_judged((), sighting), "open")
        for step in ((3, 8), (1, 3), (7, 9)):
            sightings = tuple([told_by(source, step, small_sighting) for _ in range(20)])
            self.assertEqual(self.check_judged(sightings, sightings[7]), "sure")
            self.check_judged(sightings, random_sighting(source))
        self.assertIsNone(self.check_judged(QUARREL * 10, ("on", 0, 1)))

    def test_each_word(self):
        self.assertEqual(self.check_judged(TURNS, ("next", 4, 0, 3)), "sure")
        self.assertEqual(self.check_judged(TURNS, ("on", 0, 5)), "open")
        self.assertEqual(self.check_judged(TURNS, ("on", 0, 3)), "never")
        self.assertEqual(self.check_judged((("on", 0, 3), ("turn", 0, 1, 2)), ("on", 1, 4)), "sure")


class Parting(Certified):

    def check_parting(self, one, other, count):
        least = parting(one, other)
        word = "alike" if least is None or count < least else "parts"
        self.check_pair(certify_parting(one, other, count), word, one, other, count)
        return word

    def test_small_numbers(self):
        steps = steps_to(8)
        for one in steps:
            for other in steps:
                for count in range(1, 11):
                    told = self.check_parting(one, other, count)
                    self.assertEqual(told, "alike" if order_of(one, count) == order_of(other, count) else "parts")

    def test_close_steps(self):
        source = random.Random(116)
        for figures in (3, 10, 29):
            for _ in range(25):
                middle = pair(Fraction(source.randrange(2, 10 ** figures), 10 ** figures + 1))
                if middle[1] < 4:
                    continue
                low, high = neighbours(*middle)
                for one, other in ((middle, low), (low, middle), (middle, high), (low, high)):
                    if (1, 1) in (one, other):
                        continue
                    least = parting(one, other)
                    for count in {1, 2, 3, least // 2 + 1, max(least - 1, 1), least, least + 1, GREAT}:
                        self.check_parting(one, other, count)

    def test_great_bottoms(self):
        # The simplest fraction between them has a bottom beyond all numbers of marks.
        source = random.Random(117)
        for _ in range(25):
            bottom = source.randrange(10 ** 58, 10 ** 59)
            one = pair(Fraction(source.randrange(1, bottom), bottom))
            other = pair(Fraction(*one) + Fraction(source.choice((-1, 1)), bottom ** 2))
            for count in (2, 3, 10 ** 12, source.randrange(1, GREAT), GREAT - 1, GREAT):
                self.check_parting(one, other, count)
                self.check_parting(other, one, count)

    def test_great_numbers_of_marks(self):
        source = random.Random(118)
        for _ in range(60):
            one, other = [pair(Fraction(source.randrange(10 ** 30), 10 ** 30)) for _ in range(2)]
            count = source.randrange(1, GREAT + 1)
            self.check_parting(one, other, count)
            self.check_parting(one, one, count)

    def test_next_to_nothing(self):
        for one, other, count, word in (
            ((0, 1), (1, GREAT), 1, "alike"), ((0, 1), (1, GREAT), 2, "parts"), ((1, GREAT), (1, GREAT + 1), GREAT, "alike"),
            ((1, GREAT), (1, GREAT - 1), GREAT - 1, "alike"), ((1, GREAT), (1, GREAT - 1), GREAT, "parts"),
            ((GREAT - 1, GREAT), (GREAT, GREAT + 1), GREAT, "alike"),
            ((GREAT - 1, GREAT), (GREAT - 2, GREAT - 1), GREAT, "parts"),
            ((0, 1), (0, 1), GREAT, "alike"), ((1, 2), (1, 2), 2, "alike"), ((1, 2), (1, 3), 2, "alike"),
            ((1, 2), (1, 3), 3, "parts"),
        ):
            self.assertEqual(self.check_parting(one, other, count), word)
            self.assertEqual(self.check_parting(other, one, count), word)


class WrongOnes(Wrong):

    def check_sightings(self, index, sightings):
        self.check_index(InvalidSightings, index, certify_fit, sightings)
        self.check_index(InvalidSightings, index, certify_fit, sightings=sightings)
        for behind in (TURNS[0], None, Hostile(), ("on", 0, 0)):
            self.check_index(InvalidSightings, index, certify_judged, sightings, behind)
            self.check_index(InvalidSightings, index, certify_judged, sighting=behind, sightings=sightings)

    def test_no_tuples_of_sightings(self):
        wrong_ones = [thing for thing in NO_INTEGERS if not isinstance(thing, tuple)]
        for at, wrong in enumerate(wrong_ones + [3, list(TURNS), {TURNS[0]}, {TURNS[0]: 1}, LooksLikeATuple(), iter(TURNS)]):
            with self.subTest(at=at):
                self.check_sightings(None, wrong)

    def test_sightings_among_others(self):
        for at, wrong in enumerate(WRONG_SIGHTINGS):
            with self.subTest(at=at):
                self.check_sightings(0, (wrong,))
                self.check_sightings(2, (*TURNS, wrong, wrong))
                self.check_sightings(1, (TURNS[0], wrong, TURNS[1]))
        self.check_sightings(0, TURNS[0])
        for many in (21, 22, 40):
            self.check_sightings(20, TURNS[:1] * many)
        self.check_sightings(19, TURNS[:1] * 19 + (None,) * 5)

    def test_sighting(self):
        for sightings in (TURNS, QUARREL, ()):
            for at, wrong in enumerate(WRONG_SIGHTINGS):
                with self.subTest(at=at):
                    # Ahead of NoStep.
                    self.check(InvalidSighting, wrong, certify_judged, sightings, wrong)
                    self.check(InvalidSighting, wrong, certify_judged, sighting=wrong, sightings=sightings)
        self.raised(NoStep, certify_judged, QUARREL, ("on", 0, 1))
        self.raised(NoStep, certify_judged, sighting=("on", 0, 1), sightings=QUARREL)

    def test_steps(self):
        for at, wrong in enumerate(WRONG_STEPS):
            with self.subTest(at=at):
                for behind in ((3, 8), None, (2, 4), Hostile(), wrong):
                    for count in (5, 0, None):
                        self.check(InvalidStep, wrong, certify_parting, wrong, behind, count)
                        self.check(InvalidStep, wrong, certify_parting, count=count, other=behind, one=wrong)
                for count in (5, 0, None, Hostile(), GREAT + 1):
                    self.check(InvalidStep, wrong, certify_parting, (3, 8), wrong, count)
                    self.check(InvalidStep, wrong, certify_parting, count=count, one=(3, 8), other=wrong)

    def test_counts(self):
        for at, wrong in enumerate(NO_INTEGERS + [0, -1, -GREAT, GREAT + 1, 10 ** 59]):
            for one, other in (((3, 8), (2, 5)), ((3, 8), (3, 8)), ((0, 1), (1, GREAT))):
                with self.subTest(at=at):
                    self.check(InvalidNumber, wrong, certify_parting, one, other, wrong)
                    self.check(InvalidNumber, wrong, certify_parting, count=wrong, one=one, other=other)

    def test_just_within(self):
        self.assertEqual(certify_parting((3, 8), (2, 5), 1), (("alike", (3, 8), (2, 5), 1), ()))
        self.assertEqual(certify_parting((3, 8), (2, 5), GREAT), (("parts", (3, 8), (2, 5), GREAT), (2, 5)))


if __name__ == "__main__":
    unittest.main()
