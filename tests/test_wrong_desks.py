"""What is wrong for desks: each argument of each method by itself, and several at once."""

import unittest

from rimorders.desks import Desk
from rimorders.errors import Broken, InvalidClaim, InvalidIndex, InvalidName, NotALot, UnknownName
from rimorders.lots import Lot
from test_desks import FIRST, THIRD, WHOLE, desk_of, shown_by
from wrong import GREAT, NO_INTEGERS, WRONG_LOTS, WRONG_SIGHTINGS, Hostile, LooksLikeATuple, Wrong

SIGHTING = ("turn", 0, 1, 2)
NO_NAMES = [thing for thing in NO_INTEGERS if not isinstance(thing, str)] + [
    0, 1, "", "A", "aB", "Abc", "abcdefghi", "a" * 100, "a" * 8000, " ", " a", "a ", "a b", "a\n", "\na", "a1", "1", "a_b",
    "a-b",
    "a.b", "[a]", "none!", "~", "`", "{", "@", b"a", ("a",), ["a"], {"a"}, {"a": 1}, Lot(()), Desk(), str,
]
NO_CLAIMS = [thing for thing in NO_INTEGERS] + [
    0, "inside", "sure", Lot(()), Desk(),
    # lists in the place of tuples
    ["inside", "a", "b"], ["sure", "a", SIGHTING], ["order", "a", 3], ("sure", "a", list(SIGHTING)),
    # no words, other words, words elsewhere
    (0, "a", "b"), (None, "a", 3), ("", "a", "b"), ("Inside", "a", "b"), ("inside ", "a", "b"), ("within", "a", "b"),
    ("orders", "a", 3), ("open", "a", SIGHTING), ("fits", (SIGHTING,)), ("a", "inside", "b"), (b"inside", "a", "b"),
    (["inside"], "a", "b"), ({}, "a", "b"), (Hostile(), "a", "b"), (("order",), "a", 3), (LooksLikeATuple(), "a", 3), SIGHTING,
    # other lengths
    ("inside",), ("sure",), ("order",), ("inside", "a"), ("sure", "a"), ("order", "a"), ("sure", SIGHTING), ("order", 3),
    ("inside", "a", "b", "c"), ("inside", "a", "b", None), ("sure", "a", SIGHTING, SIGHTING), ("order", "a", 3, 4),
    ("inside", ("a", "b")), ("sure", "a", *SIGHTING), ("order", "a", 3, None),
]
NO_COUNTS = NO_INTEGERS + [0, -1, -41, 42, 43, GREAT, -GREAT, "a"]


class WrongOnes(Wrong):

    def setUp(self):
        self.desks = [Desk(), desk_of(FIRST, ("inside", "b", "a"), a="(1/3,1/2)", b="(1/3,2/5)", c="none")]
        self.before = [shown_by(desk) for desk in self.desks]

    def tearDown(self):
        self.assertEqual([shown_by(desk) for desk in self.desks], self.before)

    def test_names_to_put_under(self):
        for desk in self.desks:
            for at, wrong in enumerate(NO_NAMES):
                with self.subTest(at=at):
                    self.check(InvalidName, wrong, desk.put, wrong, THIRD)
                    self.check(InvalidName, wrong, desk.put, lot=THIRD, name=wrong)

    def test_lots_to_put(self):
        for desk in self.desks:
            for at, wrong in enumerate(WRONG_LOTS):
                with self.subTest(at=at):
                    self.check(NotALot, wrong, desk.put, "a", wrong)
                    self.check(NotALot, wrong, desk.put, lot=wrong, name="z")

    def test_name_ahead_of_lot(self):
        for desk in self.desks:
            for wrong in NO_NAMES:
                for behind in (None, [], Hostile(), "none", WHOLE):
                    self.check(InvalidName, wrong, desk.put, wrong, behind)
                    self.check(InvalidName, wrong, desk.put, lot=behind, name=wrong)

    def test_names_of_things(self):
        for desk in self.desks:
            for at, wrong in enumerate(NO_NAMES + ["d", "z", "ab", "abcdefgh"]):
                with self.subTest(at=at):
                    for call in (desk.thing, desk.drop):
                        self.check(UnknownName, wrong, call, wrong)
                        self.check(UnknownName, wrong, call, name=wrong)

    def test_values_of_any_kind_in_a_desk(self):
        for desk in self.desks:
            for wrong in NO_NAMES + ["d", "z", "ab", "abcdefgh"]:
                self.assertIs(wrong in desk, False)
                self.assertIs(wrong not in desk, True)
        self.assertEqual([[name in desk for name in ("a", "b", "c", "d")] for desk in self.desks],
                         [[False] * 4, [True, True, True, False]])

    def test_no_claims(self):
        for desk in self.desks:
            for at, wrong in enumerate(NO_CLAIMS):
                with self.subTest(at=at):
                    self.check(InvalidClaim, wrong, desk.claim, wrong)
                    self.check(InvalidClaim, wrong, desk.claim, claim=wrong)

    def check_claim(self, wrong):
        # Ahead of the names, whatever they are.
        for desk in self.desks:
            for name in ("a", "z", 3, Hostile()):
                claim = wrong(name)
                self.check(InvalidClaim, claim, desk.claim, claim)
                self.check(InvalidClaim, claim, desk.claim, claim=claim)

    def test_sightings_of_claims(self):
        for at, wrong in enumerate(WRONG_SIGHTINGS + ["a", "b"]):
            with self.subTest(at=at):
                self.check_claim(lambda name: ("sure", name, wrong))

    def test_numbers_of_claims(self):
        for at, wrong in enumerate(NO_COUNTS):
            with self.subTest(at=at):
                self.check_claim(lambda name: ("order", name, wrong))

    def test_names_of_claims(self):
        for desk in self.desks:
            for at, wrong in enumerate(NO_NAMES + ["d", "z", "abcdefgh"]):
                with self.subTest(at=at):
                    for claim in (("inside", wrong, "a"), ("sure", wrong, SIGHTING), ("order", wrong, 3),
                                  ("inside", wrong, wrong), ("inside", wrong, Hostile()), ("sure", wrong, ("turn", 0, 2, 1)),
                                  ("order", wrong, 41)):
                        self.check(UnknownName, wrong, desk.claim, claim)
                        self.check(UnknownName, wrong, desk.claim, claim=claim)
        for wrong in NO_NAMES + ["d", "z"]:
            # "inside" has two names, of which the first one may be there.
            self.check(UnknownName, wrong, self.desks[1].claim, ("inside", "a", wrong))
        self.check(UnknownName, "a", self.desks[0].claim, ("inside", "a", "b"))

    def test_broken_last(self):
        desk = self.desks[1]
        self.check_index(Broken, 0, desk.put, "a", WHOLE)
        self.check_index(Broken, 0, desk.put, lot=WHOLE, name="a")
        self.check_index(Broken, 2, desk.claim, ("inside", "a", "b"))
        self.check_index(Broken, 2, desk.claim, claim=("order", "a", 6))
        self.check_index(Broken, 1, desk.put, "b", Lot.read("[1/3]"))

    def test_indexes(self):
        for desk in self.desks:
            for at, wrong in enumerate(NO_INTEGERS + [len(desk.claims), 2, 3, -1, -2, GREAT, -GREAT]):
                with self.subTest(at=at):
                    self.check(InvalidIndex, wrong, desk.lift, wrong)
                    self.check(InvalidIndex, wrong, desk.lift, index=wrong)


class Bounds(unittest.TestCase):

    def test_just_within(self):
        desk = desk_of(a="none", abcdefgh="none", zzzzzzzz="none")
        for claim in (("order", "a", 1), ("order", "abcdefgh", 41), ("inside", "zzzzzzzz", "abcdefgh"),
                      ("sure", "zzzzzzzz", ("next", 41, 40, 39))):
            desk.claim(claim)
        self.assertEqual(len(desk.claims), 4)


if __name__ == "__main__":
    unittest.main()
