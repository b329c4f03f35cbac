"""Texts of lots: read, text, str and repr of rimorders.lots."""

import random
import re
import unittest

from plain import are_pieces, fractions_to, pieces_from, with_middles
from rimorders.errors import InvalidText
from rimorders.lots import Lot
from wrong import NO_INTEGERS, Wrong

GREAT = 10 ** 30
WORD = re.compile(r"\[(\d+)/(\d+)\]|([\[(])(\d+)/(\d+),(\d+)/(\d+)([\])])")
TEXTS = [
    "none", "[0/1]", "[1/3]", "[0/1,1/1)", "(0/1,1/1)", "[1/3,2/5)", "(1/3,2/5]", "(1/3,2/5)", "[1/3,2/5]", "[1/4] (1/3,1/2)",
    "[0/1] [1/3] [2/3]", "(0/1,1/5) (1/3,2/5) (1/2,3/5) (2/3,4/5)", "[0/1,1/4) (1/4,1/3] [1/2,1/1)", "[10/11,100/101]",
]


def pieces_of_text(text):
    """The pieces, None if it is no text of a lot."""
    if text == "none":
        return ()
    pieces = []
    for word in text.split(" "):
        found = WORD.fullmatch(word)
        if found is None or re.search(r"(?<!\d)0\d", word):
            return None
        if found[1] is not None:
            step = int(found[1]), int(found[2])
            pieces.append((step, step, True, True))
        else:
            low, high = (int(found[4]), int(found[5])), (int(found[6]), int(found[7]))
            if low == high:
                return None
            pieces.append((low, high, found[3] == "[", found[8] == "]"))
    return tuple(pieces) if are_pieces(tuple(pieces)) else None


class Texts(unittest.TestCase):

    def test_read_and_text(self):
        for text in TEXTS:
            lot = Lot.read(text)
            self.assertIs(type(lot), Lot)
            self.assertEqual(lot.pieces, pieces_of_text(text))
            self.assertEqual([lot.text, str(lot), f"{lot}"], [text, text, text])
            self.assertEqual(Lot(lot.pieces).text, text)
            self.assertEqual(Lot.read(text=text), lot)

    def test_there_and_back(self):
        source = random.Random(23)
        places = with_middles(fractions_to(5))
        for _ in range(100):
            chosen = {where: source.random() < 0.6 for where in places}
            lot = Lot(pieces_from(places, chosen.get))
            self.assertEqual(Lot.read(lot.text), lot)
            self.assertEqual(pieces_of_text(lot.text), lot.pieces)
            self.assertEqual(str(lot), lot.text)

    def test_repr(self):
        for text, told in (("none", "Lot of 0 pieces"), ("[1/3]", "Lot of 1 pieces"), ("[1/4] (1/3,1/2)", "Lot of 2 pieces"),
                           ("[0/1] [1/3] [2/3]", "Lot of 3 pieces"), (" ".join(f"[{at}/101]" for at in range(1, 101)),
                                                                       "Lot of 100 pieces")):
            self.assertEqual(repr(Lot.read(text)), told)

    def test_great_numbers(self):
        text = f"[1/{GREAT},1/{GREAT - 1}) ({GREAT - 1}/{GREAT},1/1)"
        self.assertEqual(Lot.read(text).text, text)
        self.assertEqual(Lot.read(text).pieces[0], ((1, GREAT), (1, GREAT - 1), True, False))

    def test_what_is_returned_whatever_its_size(self):
        zeros, nines = "0" * 5000, "9" * 5000
        lot = Lot((((1, 10 ** 5000), (10 ** 5000 - 1, 10 ** 5000), True, False),))
        self.assertTrue(lot.text == f"[1/1{zeros},{nines}/1{zeros})" == str(lot))
        self.assertTrue(Lot.read(lot.text) == lot)
        # Many bottoms without a common divisor make a width of some thousand figures.
        many = Lot(tuple([((1, 10 ** 59 - at), (1, 10 ** 59 - at - 1), True, False) for at in range(1, 300, 2)]))
        self.assertEqual(Lot.read(many.text), many)
        self.assertGreater(many.width[1], 10 ** 4400)
        again = Lot((((0, 1), many.width, True, True),))
        self.assertTrue(Lot.read(again.text) == again)


class WrongTexts(Wrong):

    def check_text(self, text):
        pieces = pieces_of_text(text)
        if pieces is None:
            self.check(InvalidText, text, Lot.read, text)
        else:
            self.assertEqual(Lot.read(text).pieces, pieces)

    def test_one_sign_otherwise(self):
        wrong = 0
        for text in TEXTS:
            for at in range(len(text) + 1):
                varied = [text[:at] + text[at + 1:]]
                for sign in "0123456789/,[]() -+_.xn\n":
                    varied += [text[:at] + sign + text[at + 1:], text[:at] + sign + text[at:]]
                for other in varied:
                    with self.subTest(other):
                        self.check_text(other)
                    wrong += pieces_of_text(other) is None
        self.assertGreater(wrong, 5000)

    def test_one_word_otherwise(self):
        words = ["none", "[0/1]", "[1/3]", "(1/3,1/2)", "[1/2,2/3]", "[1/3,1/2]", "(2/3,1/1)", "[2/3]", "", "None", "[1/1]"]
        for first in words:
            self.check_text(first)
            for second in words:
                self.check_text(f"{first} {second}")
                for third in words:
                    self.check_text(f"{first} {second} {third}")

    def test_no_texts(self):
        for text in (
            "", " ", "  ", "none ", " none", "None", "NONE", "none none", "none [1/3]", "[1/3] none", "[]", "()", "[,]", "[/]",
            "[1/3", "1/3]", "1/3", "(1/3)", "[1/3)", "(1/3]", "[1/3,1/3]", "(1/3,1/3)", "[1/3,1/3)", "[2/5,1/3)", "[1/1]",
            "[1/2,1/1]", "[2/4]", "[0/2]", "[1/0]", "[0/0]", "[3/2]", "[1/2,3/2)", "[-1/3]", "[+1/3]", "[01/3]", "[1/03]",
            "[00/1]", "[1/3,2/5,1/2]", "[1/3, 2/5]", "[1/3 ,2/5]", "[1/3,2/5) ", " [1/3,2/5)", "[1/3,2/5)  [1/2]",
            "[1/3,2/5)\n", "[1/3,2/5)\n[1/2]", "[1/3,2/5)\t[1/2]", "[1/2] [1/3]", "[1/3] [1/3]", "[1/3] (1/3,1/2)",
            "[1/3,2/5) [2/5,1/2)", "[1/3,2/5] (2/5,1/2)", "[1/3,2/5] [2/5,1/2)", "[1/3,1/2) [2/5,2/3)", "]1/3[", "{1/3}",
            "[1/3]]", "[[1/3]", "[1.0/3]", "[1//3]", "[1/3/5]", "[a/b]", "[1_0/11]", "[ 1/3]", "[1/ 3]", "[1/3;2/5)", "0", "[0]",
            "[0,1)", "whole", "x" * 8000, "[" * 8000, "[1/3] " * 1000, "[" + "1" * 5000 + "/3]", "[0" + "0" * 5000 + "/1]",
        ):
            self.assertIsNone(pieces_of_text(text) if len(text) < 4000 else None)
            self.check(InvalidText, text, Lot.read, text)
            self.check(InvalidText, text, Lot.read, text=text)

    def test_no_strings(self):
        lot = Lot.read("[1/3]")
        for wrong in [thing for thing in NO_INTEGERS if not isinstance(thing, str)] + [
            0, 3, GREAT, b"none", b"[1/3]", ("none",), ["[1/3]"], lot, lot.pieces, Lot,
        ]:
            self.check(InvalidText, wrong, Lot.read, wrong)
            self.check(InvalidText, wrong, Lot.read, text=wrong)


if __name__ == "__main__":
    unittest.main()
