"""Lots under names, with claims: Desk of rimorders.desks, without its trials."""

import random
import unittest

from desk_model import NAMES, TEXTS, Model, drawn_deed, shown_against
from rimorders.desks import Desk
from rimorders.errors import Broken, InUse, InvalidIndex, NothingToUndo, UnknownName
from rimorders.lots import Lot, others
from wrong import Wrong

THIRD, WIDE, NONE = Lot.read("[1/3,2/5)"), Lot.read("[1/4] (1/3,1/2)"), Lot(())
WHOLE = others(NONE)
FIRST = ("sure", "a", ("turn", 0, 1, 2))


def shown_by(desk):
    """All that a desk tells of itself."""
    return desk.names, [desk.thing(name).pieces for name in desk.names], desk.claims, desk.changes


def desk_of(*claims, **lots):
    """A desk with lots that are told by their texts."""
    desk = Desk()
    for name, text in lots.items():
        desk.put(name, Lot.read(text))
    for claim in claims:
        desk.claim(claim)
    return desk


class Examples(Wrong):

    def test_by_name(self):
        desk = Desk()
        self.assertIsNone(desk.put(name="a", lot=THIRD))
        self.assertIsNone(desk.put(lot=WIDE, name="b"))
        self.assertIs(desk.thing(name="a"), THIRD)
        self.assertIsNone(desk.claim(claim=FIRST))
        self.assertIsNone(desk.lift(index=0))
        self.assertIsNone(desk.drop(name="a"))
        self.assertEqual([desk.names, desk.claims, desk.changes], [("b",), (), 5])

    def test_at_first(self):
        desk = Desk()
        self.assertEqual(shown_by(desk), ((), [], (), 0))
        self.raised(NothingToUndo, desk.undo)
        self.check(UnknownName, "a", desk.thing, "a")
        self.check(InvalidIndex, 0, desk.lift, 0)
        self.assertEqual(shown_by(desk), ((), [], (), 0))

    def test_what_methods_return(self):
        desk = Desk()
        self.assertEqual([desk.put("a", THIRD), desk.put("a", THIRD), desk.claim(FIRST), desk.lift(0), desk.drop("a"),
                          desk.undo()], [None] * 6)
        self.assertEqual(desk.changes, 4)


class Deeds(Wrong):

    def do(self, desk, model, deed, *given):
        """The desk does, or refuses, just what the model tells; returns whether it is done."""
        before = shown_by(desk)
        needed = model.expected(deed, *given)
        if needed is None:
            self.assertIsNone(getattr(desk, deed)(*given))
            return True
        error, attributes = needed
        raised = self.raised(error, getattr(desk, deed), *given)
        self.assertEqual(vars(raised), attributes, (deed, given, model.lots, model.claims))
        self.assertEqual(shown_by(desk), before)
        return False

    def check_desk(self, desk, model):
        self.assertEqual(desk.names, tuple(sorted(model.lots)))
        self.assertEqual([desk.thing(name) for name in desk.names], [model.lots[name] for name in desk.names])
        self.assertEqual([name in desk for name in NAMES], [name in model.lots for name in NAMES])
        self.assertEqual(desk.claims, tuple(model.claims))
        self.assertEqual(desk.changes, len(model.past))
        for claim in desk.claims:
            self.assertIsNone(shown_against(claim, model.lots))

    def test_rows_of_deeds(self):
        source = random.Random(90)
        done = {}
        for _ in range(25):
            desk, model = Desk(), Model()
            for _ in range(60):
                deed, *given = drawn_deed(source, model)
                key = deed, self.do(desk, model, deed, *given)
                done[key] = done.get(key, 0) + 1
                self.check_desk(desk, model)
        for deed in ("put", "drop", "claim", "lift", "undo"):
            self.assertGreater(min(done[deed, True], done[deed, False]), 5, deed)

    def test_desks_beside_one_another(self):
        source = random.Random(91)
        desks = [(Desk(), Model()) for _ in range(3)]
        for _ in range(150):
            desk, model = source.choice(desks)
            deed, *given = drawn_deed(source, model)
            self.do(desk, model, deed, *given)
            for desk, model in desks:
                self.assertEqual([desk.names, desk.claims, desk.changes],
                                 [tuple(sorted(model.lots)), tuple(model.claims), len(model.past)])
        for desk, model in desks:
            self.check_desk(desk, model)

    def test_each_undo(self):
        source = random.Random(92)
        for _ in range(8):
            desk, model = Desk(), Model()
            deeds, before = [], [shown_by(desk)]
            while len(deeds) < 20:
                deed, *given = drawn_deed(source, model)
                if deed != "undo" and self.do(desk, model, deed, *given):
                    deeds.append((deed, given))
                    before.append(shown_by(desk))
            for _ in range(2):
                for at in range(20, 0, -1):
                    self.assertEqual(shown_by(desk), before[at])
                    self.assertIsNone(desk.undo())
                self.assertEqual(shown_by(desk), before[0])
                self.raised(NothingToUndo, desk.undo)
                # The same deeds anew lead to the same.
                for deed, given in deeds:
                    getattr(desk, deed)(*given)
                self.assertEqual(shown_by(desk), before[20])

    def test_undo_of_what_left_all_as_it_was(self):
        desk = desk_of(FIRST, a="[1/3,2/5)")
        before = shown_by(desk)
        desk.put("a", Lot.read("[1/3,2/5)"))
        desk.put("a", desk.thing("a"))
        self.assertEqual(shown_by(desk), before[:3] + (4,))
        desk.undo()
        self.assertEqual(shown_by(desk), before[:3] + (3,))
        desk.undo()
        self.assertEqual(shown_by(desk), before)
        desk.undo()
        self.assertEqual([desk.names, desk.claims, desk.changes], [("a",), (), 1])

    def test_refused_ones_are_not_taken_back(self):
        desk = desk_of(FIRST, a="[1/3,2/5)")
        self.raised(Broken, desk.put, "a", WHOLE)
        self.raised(InUse, desk.drop, "a")
        self.raised(InvalidIndex, desk.lift, 1)
        self.raised(UnknownName, desk.drop, "b")
        desk.undo()
        self.assertEqual([desk.claims, desk.changes], [(), 1])

    def test_put_in_the_place_of_another_one(self):
        desk = desk_of(a="[1/3,2/5)", b="none")
        desk.put("a", WIDE)
        self.assertEqual([desk.names, desk.thing("a"), desk.thing("b")], [("a", "b"), WIDE, NONE])
        desk.undo()
        self.assertEqual(desk.thing("a"), THIRD)

    def test_names(self):
        desk = desk_of(z="none", abcdefgh="none", a="none", ab="none", zzzzzzzz="none", b="none")
        self.assertEqual(desk.names, ("a", "ab", "abcdefgh", "b", "z", "zzzzzzzz"))
        self.assertIs(type(desk.names), tuple)

    def test_claims_made_several_times(self):
        desk = desk_of(FIRST, FIRST, ("order", "a", 3), FIRST, a="[1/3,2/5)")
        desk.lift(1)
        self.assertEqual(desk.claims, (FIRST, ("order", "a", 3), FIRST))
        desk.lift(0)
        desk.lift(1)
        self.assertEqual(desk.claims, (("order", "a", 3),))
        self.assertIs(type(desk.claims), tuple)


class Claims(Wrong):

    def check_broken(self, index, shown, call, *given):
        raised = self.raised(Broken, call, *given)
        self.assertEqual((type(raised.shown), raised.shown, raised.index), (type(shown), shown, index))

    def test_inside(self):
        for text, mate, shown in (
            ("[1/3,2/5)", "(1/3,1/2)", "[1/3]"), ("[1/3,2/5)", "[1/3,1/2)", None), ("[1/4] (1/3,1/2)", "[1/4]", "(1/3,1/2)"),
            ("[0/1,1/1)", "[1/4] (1/3,1/2)", "[0/1,1/4) (1/4,1/3] [1/2,1/1)"), ("none", "none", None), ("none", "[1/3]", None),
            ("[1/3]", "none", "[1/3]"), ("[1/3]", "[1/3]", None),
        ):
            desk = desk_of(a=text, b=mate)
            if shown is None:
                self.assertIsNone(desk.claim(("inside", "a", "b")))
            else:
                self.check_broken(0, shown, desk.claim, ("inside", "a", "b"))
        desk.claim(("inside", "a", "a"))
        self.assertEqual(desk.claims, (("inside", "a", "b"), ("inside", "a", "a")))

    def test_sure(self):
        for text, sighting, shown in (
            ("[1/3,2/5)", ("turn", 0, 1, 2), None), ("[1/3,2/5)", ("turn", 0, 3, 1), "[1/3]"),
            ("[1/3,2/5)", ("on", 0, 3), "(1/3,2/5)"), ("[1/3]", ("on", 0, 3), None), ("none", ("on", 0, 3), None),
            ("[0/1,1/1)", ("turn", 0, 1, 2), "[0/1] [1/2,1/1)"), ("[1/4] (1/3,1/2)", ("within", 0, 1, (1, 3), (1, 2)), "[1/4]"),
            ("(0/1,1/40)", ("next", 41, 0, 1), None), ("[0/1,1/40]", ("next", 41, 0, 1), "[0/1]"),
            ("[1/40]", ("next", 41, 39, 40), "[1/40]"),
        ):
            desk = desk_of(a=text)
            if shown is None:
                self.assertIsNone(desk.claim(("sure", "a", sighting)))
            else:
                self.check_broken(0, shown, desk.claim, ("sure", "a", sighting))
                self.assertEqual(desk.claims, ())

    def test_order(self):
        for text, count, shown in (
            ("[1/3,2/5)", 3, None), ("[1/3,2/5)", 4, 2), ("[1/3,2/5)", 9, 4), ("(1/3,2/5)", 8, None), ("(1/3,2/5)", 9, 3),
            ("none", 1, None), ("none", 41, None), ("[1/3]", 41, None), ("[0/1,1/1)", 1, None), ("[0/1,1/1)", 2, 2),
            ("[0/1] [1/3] [2/3]", 1, None), ("[0/1] [1/3] [2/3]", 41, 3), ("[1/5] [1/4]", 4, None), ("[1/5] [1/4]", 5, 2),
        ):
            desk = desk_of(a=text)
            if shown is None:
                self.assertIsNone(desk.claim(("order", "a", count)))
            else:
                self.check_broken(0, shown, desk.claim, ("order", "a", count))

    def test_empty_lots(self):
        claims = FIRST, ("sure", "a", ("turn", 0, 2, 1)), ("inside", "a", "b"), ("order", "a", 41), ("inside", "a", "a")
        desk = desk_of(*claims, a="none", b="none")
        self.assertEqual(desk.claims, claims)
        self.check_broken(1, "(0/1,1/2)", desk.put, "a", Lot.read("(0/1,1/2)"))
        self.check_broken(0, "(1/2,1/1)", desk.put, "a", Lot.read("(1/2,1/1)"))
        self.check_broken(0, "[0/1]", desk.put, "a", Lot.read("[0/1]"))
        desk.put("b", WHOLE)

    def test_first_one_that_does_not_hold(self):
        desk = desk_of(FIRST, ("inside", "a", "b"), ("order", "a", 6), ("inside", "c", "a"), a="(1/3,2/5)", b="[1/4] (1/3,1/2)",
                       c="(7/20,3/8)")
        before = shown_by(desk)
        for name, text, index, shown in (
            ("a", "(1/3,2/3)", 0, "[1/2,2/3)"), ("a", "[1/3,2/5)", 1, "[1/3]"), ("a", "(1/3,1/2)", 2, 3),
            ("a", "none", 3, "(7/20,3/8)"),
            ("a", "[3/8]", 3, "(7/20,3/8)"), ("b", "none", 1, "(1/3,2/5)"), ("c", "(1/4,1/3]", 3, "(1/4,1/3]"),
        ):
            self.check_broken(index, shown, desk.put, name, Lot.read(text))
            self.assertEqual(shown_by(desk), before)
        desk.lift(0)
        self.check_broken(0, "[1/2,2/3)", desk.put, "a", Lot.read("(1/3,2/3)"))

    def test_new_one_is_the_last(self):
        desk = desk_of(FIRST, ("order", "a", 3), a="[1/3,2/5)")
        before = shown_by(desk)
        self.check_broken(2, "[1/3]", desk.claim, ("sure", "a", ("turn", 0, 3, 1)))
        self.check_broken(2, 2, desk.claim, ("order", "a", 4))
        self.assertEqual(shown_by(desk), before)

    def test_in_use(self):
        desk = desk_of(FIRST, ("inside", "b", "a"), ("order", "c", 3), ("inside", "c", "b"), ("order", "d", 1),
                       a="(1/3,1/2)", b="(1/3,2/5)", c="[3/8]", d="none", e="none")
        before = shown_by(desk)
        for name, index in (("a", 0), ("b", 1), ("c", 2), ("d", 4)):
            self.check_index(InUse, index, desk.drop, name)
            self.check_index(InUse, index, desk.drop, name=name)
            self.assertEqual(shown_by(desk), before)
        desk.drop("e")
        self.assertEqual(desk.names, ("a", "b", "c", "d"))
        desk.lift(0)
        self.check_index(InUse, 0, desk.drop, "a")
        desk.lift(0)
        desk.drop("a")
        self.assertEqual(desk.names, ("b", "c", "d"))

    def test_lifted_ones_no_longer_bind(self):
        desk = desk_of(FIRST, a="[1/3,2/5)")
        self.raised(Broken, desk.put, "a", WHOLE)
        desk.lift(0)
        desk.put("a", WHOLE)
        self.raised(Broken, desk.claim, FIRST)
        desk.undo()
        desk.undo()
        self.assertEqual([desk.claims, desk.thing("a")], [(FIRST,), THIRD])
        self.raised(Broken, desk.put, "a", WHOLE)


class Objects(unittest.TestCase):

    def test_equal_to_itself_alone(self):
        desk, other = desk_of(FIRST, a="[1/3]"), desk_of(FIRST, a="[1/3]")
        self.assertTrue(desk == desk and not desk != desk)
        for thing in (other, Desk(), None, True, 0, "", "a", (), desk.names, desk.thing("a"), Desk, object(), [desk]):
            self.assertIs(desk == thing, False)
            self.assertIs(desk != thing, True)
            self.assertIs(thing == desk, False)
            self.assertIs(thing != desk, True)

    def test_true(self):
        self.assertTrue(Desk())
        self.assertTrue(desk_of(a="none"))

    def test_handed_out_ones_stay(self):
        desk = desk_of(FIRST, a="[1/3,2/5)")
        names, claims, lot = desk.names, desk.claims, desk.thing("a")
        desk.put("b", WIDE)
        desk.lift(0)
        desk.put("a", WHOLE)
        desk.drop("a")
        for _ in range(6):
            desk.undo()
        self.assertEqual([names, claims, lot.text], [("a",), (FIRST,), "[1/3,2/5)"])

    def test_all_texts_are_used(self):
        self.assertEqual([Lot.read(text).text for text in TEXTS], list(TEXTS))


if __name__ == "__main__":
    unittest.main()
