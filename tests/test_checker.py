"""The checker: accepts of rimorders.checker."""

import random
import unittest
from fractions import Fraction

from drawn import random_sighting, small_sighting, told_by
from plain import fractions_to, neighbours, order_of, pair, steps_to
from proofs import all_steps, changed, fit, is_paper, verdict
from rimorders.checker import accepts
from rimorders.errors import NotRight
from rimorders.lots import Lot
from rimorders.rims import Rim
from rimorders.steps import between, order, parting
from wrong import GREAT, NO_INTEGERS, WRONG_SIGHTINGS, WRONG_STEPS, Hostile, LooksLikeATuple

TURNS = ("turn", 0, 1, 2), ("turn", 0, 3, 1)
QUARREL = ("turn", 0, 1, 2), ("turn", 0, 2, 1)
# Right claims of all words, each with right papers.
RIGHT = [
    (("fits", ()), (0, 1)), (("fits", TURNS), (2, 5)), (("fits", TURNS), (3, 8)), (("fits", (("on", 0, 3),)), (2, 3)),
    (("none", QUARREL), ()), (("none", (("on", 0, 2), ("on", 0, 3), ("turn", 0, 1, 2))), ()),
    (("sure", TURNS, ("next", 4, 0, 3)), ()), (("sure", (("turn", 0, 1, 2),), ("next", 3, 0, 1)), ()),
    (("sure", TURNS, TURNS[0]), ()),
    (("open", TURNS, ("on", 0, 5)), ((2, 5), (3, 8))), (("open", (), ("on", 0, 5)), ((0, 1), (1, 2))),
    (("parts", (3, 8), (2, 5), 6), (2, 5)), (("parts", (2, 5), (3, 8), 6), (2, 5)), (("parts", (3, 8), (2, 5), 9), (3, 8)),
    (("parts", (3, 8), (2, 5), GREAT), (5, 13)), (("parts", (0, 1), (1, 2), 2), (0, 1)),
    (("alike", (3, 8), (2, 5), 5), ((1, 3), (1, 2))), (("alike", (2, 5), (3, 8), 5), ((1, 3), (1, 2))),
    (("alike", (3, 8), (3, 8), 9), ()),
    (("alike", (3, 8), (2, 5), 1), ()), (("alike", (0, 1), (0, 1), GREAT), ()), (("alike", (2, 5), (3, 7), 2), ((0, 1), (1, 1))),
    (("alike", (2, 5), (3, 7), 3), ((0, 1), (1, 2))), (("alike", (2, 5), (3, 7), 5), ((1, 3), (1, 2))),
]
ANYTHING = NO_INTEGERS + WRONG_STEPS + WRONG_SIGHTINGS + [
    0, 1, 2, "()", "none", (0, 1), (1, 2), (2, 5), ((0, 1), (1, 1)), ((1, 3), (1, 2)), [()], ((),), {(): ()}, accepts,
    NotRight, Lot(()), Rim(),
    Fraction(1, 2), ValueError, [(1, 3), (1, 2)], ([1, 3], [1, 2]), iter(()), range(0), bytes(2), GREAT, (GREAT, GREAT + 1),
]


class Checker(unittest.TestCase):

    def told(self, claim, paper):
        """What accepts tells: True or False, and nothing is raised."""
        told = accepts(claim, paper)
        self.assertIs(type(told), bool)
        return told

    def check(self, claim, paper):
        told = self.told(claim, paper)
        self.assertIs(told, is_paper(claim, paper), (claim, paper))
        return told


class Right(Checker):

    def test_example(self):
        self.assertEqual(
            [accepts(("parts", (3, 8), (2, 5), 6), (2, 5)), accepts(("alike", (3, 8), (2, 5), 5), ((1, 3), (1, 2))),
             accepts(("alike", (3, 8), (2, 5), 6), ((1, 3), (1, 2))), accepts(("fits", (("on", 0, 3),)), (2, 3))],
            [True, True, False, True],
        )

    def test_by_name(self):
        self.assertIs(accepts(claim=("fits", ()), paper=(1, 2)), True)
        self.assertIs(accepts(paper=("fits", ()), claim=(1, 2)), False)

    def test_right_ones(self):
        for claim, paper in RIGHT:
            with self.subTest(claim=claim):
                self.assertIs(self.told(claim, paper), True)
                self.assertTrue(is_paper(claim, paper))

    def test_papers_of_others(self):
        for claim, _ in RIGHT:
            for _, paper in RIGHT:
                self.check(claim, paper)

    def test_papers_a_little_otherwise(self):
        for claim, paper in RIGHT:
            for other in changed(paper):
                self.check(claim, other)

    def test_claims_a_little_otherwise(self):
        for claim, paper in RIGHT:
            words = ("fits", "none") if len(claim) == 2 else ("sure", "open") if len(claim) == 3 else ("parts", "alike")
            for word in words:
                self.check((word,) + claim[1:], paper)
            if len(claim) == 4:
                for more in (-1, 1, 3):
                    if claim[3] + more >= 1:
                        self.check(claim[:3] + (claim[3] + more,), paper)
                self.check((claim[0], claim[2], claim[1], claim[3]), paper)


class Sightings(Checker):

    def test_fits_by_all_steps(self):
        source = random.Random(100)
        found = []
        for _ in range(60):
            sightings = tuple([small_sighting(source) for _ in range(source.randrange(4))])
            for step in steps_to(9):
                found.append(self.check(("fits", sightings), step))
        self.assertGreater(min(found.count(True), found.count(False)), 100)

    def test_none_by_all_steps(self):
        source = random.Random(101)
        found = []
        for _ in range(120):
            sightings = tuple([small_sighting(source) for _ in range(source.randrange(1, 6))])
            found.append(self.check(("none", sightings), ()))
        for _ in range(10):
            found.append(self.check(("none", tuple([random_sighting(source, 20) for _ in range(3)])), ()))
        self.assertGreater(min(found.count(True), found.count(False)), 20)

    def test_sure_by_all_steps(self):
        source = random.Random(102)
        found = []
        for _ in range(250):
            sightings = tuple([small_sighting(source) for _ in range(source.randrange(5))])
            claim = "sure", sightings, small_sighting(source)
            found.append(self.check(claim, ()))
            # Without a step that makes all others right nothing is sure.
            if not any(fit(sightings, step) for step in all_steps(*sightings)):
                self.assertIs(self.told(claim, ()), False)
        self.assertGreater(min(found.count(True), found.count(False)), 20)

    def test_open_by_all_steps(self):
        source = random.Random(103)
        found = []
        for _ in range(60):
            sightings = tuple([told_by(source, (3, 8), small_sighting) for _ in range(source.randrange(3))])
            sighting = small_sighting(source)
            steps = all_steps(*sightings, sighting)
            papers = [(source.choice(steps), source.choice(steps)) for _ in range(30)]
            told = [self.check(("open", sightings, sighting), paper) for paper in papers]
            if any(told):
                self.assertEqual(verdict(sightings, sighting), "open")
            found += told
        self.assertGreater(min(found.count(True), found.count(False)), 50)

    def test_each_step_of_an_open_one(self):
        claim = "open", TURNS, ("on", 0, 5)
        for right, told in (((2, 5), True), ((1, 2), False), ((3, 8), False), ((1, 5), False), ((3, 5), False)):
            self.assertIs(self.told(claim, (right, (3, 8))), told)
        for wrong, told in (((3, 8), True), ((3, 7), True), ((2, 5), False), ((1, 3), False), ((1, 2), False), ((0, 1), False)):
            self.assertIs(self.told(claim, ((2, 5), wrong)), told)

    def test_twenty_and_more(self):
        for word, paper in (("fits", (2, 5)), ("none", ())):
            many = (TURNS if word == "fits" else QUARREL) * 10
            self.assertIs(self.told((word, many), paper), True)
            self.assertIs(self.told((word, many + TURNS[:1]), paper), False)
        self.assertIs(self.told(("sure", TURNS * 10, TURNS[0]), ()), True)
        self.assertIs(self.told(("sure", TURNS * 10 + TURNS[:1], TURNS[0]), ()), False)
        self.assertIs(self.told(("open", TURNS * 10, ("on", 0, 5)), ((2, 5), (3, 8))), True)
        self.assertIs(self.told(("open", TURNS * 10 + TURNS[:1], ("on", 0, 5)), ((2, 5), (3, 8))), False)

    def test_great_steps(self):
        self.assertIs(self.told(("fits", (("next", 41, 0, 1),)), (1, GREAT)), True)
        self.assertIs(self.told(("fits", (("next", 41, 0, 1),)), (GREAT - 1, GREAT)), False)
        self.assertIs(self.told(("open", (), ("turn", 0, 1, 2)), ((1, 10 ** 60), (10 ** 60 - 1, 10 ** 60))), True)


class Steps(Checker):

    def test_small_numbers(self):
        steps, points = steps_to(6), [pair(point) for point in fractions_to(7)]
        papers = [(low, high) for low in points for high in points if high[0] * low[1] - low[0] * high[1] == 1]
        for one in steps:
            for other in steps:
                for count in range(1, 8):
                    alike = order(one, count) == order(other, count)
                    told = [self.check(("parts", one, other, count), paper) for paper in points]
                    self.assertIs(any(told), not alike, (one, other, count))
                    told = [self.check(("alike", one, other, count), paper) for paper in papers + [()]]
                    self.assertIs(any(told), alike, (one, other, count))

    def test_all_numbers_of_orders(self):
        source = random.Random(104)
        steps = steps_to(40)
        for _ in range(300):
            one, count = source.choice(steps), source.randrange(1, 61)
            other = source.choice(steps[:60] + [one])
            paper = between(one, other)
            told = self.check(("parts", one, other, count), paper)
            self.assertIs(told, order_of(one, count) != order_of(other, count))

    def test_great_numbers(self):
        source = random.Random(105)
        for figures in (3, 10, 30, 59):
            for _ in range(30):
                middle = pair(Fraction(source.randrange(2, 10 ** figures), 10 ** figures + 1))
                if middle[1] < 4:
                    continue
                # Two steps on both sides of it, between its neighbours: it parts them.
                low, high = neighbours(*middle)
                one, other = pair(self.between(low, middle)), pair(self.between(middle, high))
                least = parting(one, other)
                self.assertEqual(least, middle[1] + 1)
                for count in (least, least + 1, 2 * least, 10 ** 60):
                    self.assertIs(self.check(("parts", one, other, count), middle), True)
                    self.assertIs(self.check(("alike", one, other, count), (low, high)), False)
                for count in (2, least // 2 + 1, least - 1):
                    self.assertIs(self.check(("parts", one, other, count), middle), False)
                    self.assertIs(self.check(("alike", one, other, count), (low, high)), True)

    def between(self, low, high):
        return Fraction(low[0] + high[0], low[1] + high[1])

    def test_ends(self):
        # Both steps lie between the fractions, neither is one of them.
        self.assertIs(self.check(("alike", (1, 3), (2, 5), 3), ((1, 3), (1, 2))), False)
        self.assertIs(self.check(("alike", (1, 3), (2, 5), 3), ((0, 1), (1, 2))), True)
        self.assertIs(self.check(("alike", (2, 5), (1, 2), 3), ((1, 3), (1, 2))), False)
        self.assertIs(self.check(("alike", (2, 5), (1, 2), 2), ((0, 1), (1, 1))), True)
        self.assertIs(self.check(("alike", (0, 1), (1, 2), 2), ((-1, 1), (0, 1))), False)
        self.assertIs(self.check(("alike", (2, 5), (3, 7), 6), ((1, 3), (1, 2))), False)
        self.assertIs(self.check(("alike", (2, 5), (3, 7), 5), ((2, 5), (1, 2))), False)
        # Fractions that are no neighbours show nothing.
        self.assertIs(self.check(("alike", (3, 8), (3, 7), 7), ((1, 3), (3, 5))), False)
        self.assertIs(self.check(("alike", (3, 8), (3, 7), 4), ((1, 2), (1, 3))), False)
        self.assertIs(self.check(("alike", (3, 8), (3, 7), 5), ((2, 6), (1, 2))), False)

    def test_fractions_that_part(self):
        for paper, told in (((3, 8), True), ((2, 5), True), ((5, 13), True), ((1, 3), False), ((1, 2), False), ((4, 10), False),
                            ((-2, 5), False), ((2, -5), False), ((0, 1), False), ((1, 1), False), ((9, 23), False)):
            self.assertIs(self.check(("parts", (3, 8), (2, 5), 20), paper), told)
            self.assertIs(self.check(("parts", (2, 5), (3, 8), 20), paper), told)
        self.assertIs(self.check(("parts", (3, 8), (3, 8), 20), (3, 8)), False)
        self.assertIs(self.check(("parts", (3, 8), (2, 5), 5), (2, 5)), False)


class Anything(Checker):

    def test_in_the_place_of_both(self):
        for claim in ANYTHING:
            for paper in ((), (1, 2), (0, 1), ((1, 3), (1, 2)), None, Hostile(), []):
                self.assertIs(self.told(claim, paper), False)
                self.assertIs(self.told(paper, claim), False)

    def test_papers_of_any_kind(self):
        for claim, right in RIGHT:
            for at, paper in enumerate(ANYTHING):
                with self.subTest(claim=claim, at=at):
                    told = self.told(claim, paper)
                    if told:
                        self.assertTrue(is_paper(claim, paper))

    def test_lists(self):
        for claim, paper in RIGHT:
            self.assertIs(self.told(list(claim), paper), False)
            self.assertIs(self.told(claim, list(paper)), False)
            for at, part in enumerate(claim):
                if type(part) is tuple:
                    self.assertIs(self.told(claim[:at] + (list(part),) + claim[at + 1:], paper), False)
            for at, part in enumerate(paper):
                if type(part) is tuple:
                    self.assertIs(self.told(claim, paper[:at] + (list(part),) + paper[at + 1:]), False)

    def test_lengths(self):
        for claim, paper in RIGHT:
            for at in range(len(claim)):
                self.assertIs(self.told(claim[:at], paper), False)
                self.assertIs(self.told(claim[:at] + claim[at + 1:], paper), False)
            for more in (None, (), claim[-1], 3, paper):
                self.assertIs(self.told(claim + (more,), paper), False)
            self.assertIs(self.told((claim,), paper), False)

    def test_words(self):
        for claim, paper in RIGHT:
            word = claim[0]
            for wrong in (word.upper(), word.title(), word + "s", word[:-1], " " + word, "", "never", "inside", "order",
                          word.encode(), (word,), [word], {word: 1}, {word}, None, True, 0, Hostile(), LooksLikeATuple()):
                self.assertIs(self.told((wrong,) + claim[1:], paper), False)

    def test_sightings_of_claims(self):
        for wrong in WRONG_SIGHTINGS:
            for word, paper in (("fits", (2, 5)), ("none", ())):
                for sightings in (wrong, (wrong,), (*TURNS, wrong), (wrong, *QUARREL)):
                    if type(sightings) is not tuple or sightings:
                        self.assertIs(self.told((word, sightings), paper), False)
            for claim, paper in ((("sure", TURNS, TURNS[0]), ()), (("open", TURNS, ("on", 0, 5)), ((2, 5), (3, 8)))):
                self.assertIs(self.told((claim[0], (*TURNS, wrong), claim[2]), paper), False)
                self.assertIs(self.told((claim[0], claim[1], wrong), paper), False)
        self.assertIs(self.told(("fits", TURNS[0]), (2, 5)), False)

    def test_steps_of_claims(self):
        for wrong in WRONG_STEPS:
            for claim, paper in ((("parts", (3, 8), (2, 5), 6), (2, 5)), (("alike", (3, 8), (2, 5), 5), ((1, 3), (1, 2))),
                                 (("alike", (3, 8), (3, 8), 5), ()), (("alike", (3, 8), (2, 5), 1), ())):
                self.assertIs(self.told((claim[0], wrong, *claim[2:]), paper), False)
                self.assertIs(self.told((*claim[:2], wrong, claim[3]), paper), False)
                self.assertIs(self.told((claim[0], wrong, wrong, claim[3]), paper), False)

    def test_numbers_of_claims(self):
        for wrong in NO_INTEGERS + [0, -1, -GREAT, "6", (6,)]:
            for claim, paper in ((("parts", (3, 8), (2, 5)), (2, 5)), (("alike", (3, 8), (2, 5)), ((1, 3), (1, 2))),
                                 (("alike", (3, 8), (3, 8)), ()), (("alike", (3, 8), (2, 5)), ())):
                self.assertIs(self.told(claim + (wrong,), paper), False)

    def test_steps_as_papers(self):
        for wrong in WRONG_STEPS:
            self.assertIs(self.told(("fits", ()), wrong), False)
            self.assertIs(self.told(("open", (), ("on", 0, 5)), (wrong, (1, 2))), False)
            self.assertIs(self.told(("open", (), ("on", 0, 5)), ((0, 1), wrong)), False)
            self.assertIs(self.told(("alike", (3, 8), (2, 5), 2), (wrong, (1, 1))), False)
            self.check(("alike", (3, 8), (2, 5), 2), ((0, 1), wrong))
        self.assertIs(self.told(("parts", (0, 1), (1, 2), 9), (False, True)), False)
        self.assertIs(self.told(("parts", (0, 1), (1, 2), 9), (False, 1)), False)
        self.assertIs(self.told(("parts", (0, 1), (1, 2), 9), (0, True)), False)

    def test_nothing_is_changed(self):
        claim, paper = ["fits", [list(TURNS[0])]], [2, 5]
        self.assertIs(accepts(claim, paper), False)
        self.assertEqual([claim, paper], [["fits", [list(TURNS[0])]], [2, 5]])


if __name__ == "__main__":
    unittest.main()
