"""What an integer, a fraction and a step are, by [3] and [6]."""

import unittest

from rimorders.checks import is_fraction, is_integer, is_less, is_name, is_number, is_part, is_step


class Kinds(unittest.TestCase):

    def test_integers(self):
        for value in (0, 1, -1, 10 ** 60):
            self.assertIs(is_integer(value), True)
        for value in (True, False, None, "1", (1,), [1]):
            self.assertIs(is_integer(value), False)

    def test_fractions(self):
        for value in ((0, 1), (1, 1), (3, 8), (8, 3), (-3, 8), (-1, 1), (5, 1)):
            self.assertIs(is_fraction(value), True)
        for value in ((3, -8), (-3, -8), (0, -1), (0, 0), (1, 0), (-1, 0), (0, 2), (2, 4), (-2, 4), (True, 2), (1, True),
                      [3, 8], (3,), (3, 8, 1), None):
            self.assertIs(is_fraction(value), False)

    def test_parts(self):
        for value in ((0, 1), (1, 1), (1, 2), (10 ** 60 - 2, 10 ** 60 - 1)):
            self.assertIs(is_part(value), True)
        for value in ((2, 1), (8, 3), (-3, 8), (2, 4), (2, 2), (0, 2), [3, 8], None):
            self.assertIs(is_part(value), False)

    def test_less(self):
        for one, other, told in (((0, 1), (1, 3), True), ((1, 3), (0, 1), False), ((1, 3), (1, 3), False), ((2, 5), (1, 2), True),
                                 ((10 ** 30 - 1, 10 ** 30), (1, 1), True), ((1, 10 ** 30), (1, 10 ** 30 - 1), True)):
            self.assertIs(is_less(one, other), told)

    def test_numbers(self):
        for value in (2, 3, 40):
            self.assertIs(is_number(value, 2, 40), True)
        for value in (1, 41, -2, None, "3", [3], (3,)):
            self.assertIs(is_number(value, 2, 40), False)
        self.assertIs(is_number(True, 0, 40), False)

    def test_names(self):
        for value in ("a", "z", "abcdefgh", "zzzzzzzz", "none", "lot"):
            self.assertIs(is_name(value), True)
        for value in ("", "abcdefghi", "A", "aB", "a1", "1", "a b", " a", "a_", "a-", "{", "`", "a\n", b"a", None, 0, True,
                      ("a",), ["a"]):
            self.assertIs(is_name(value), False)

    def test_steps(self):
        for value in ((0, 1), (1, 2), (10 ** 60 - 2, 10 ** 60 - 1)):
            self.assertIs(is_step(value), True)
        for value in ((1, 1), (8, 3), (-3, 8), (5, 1), (2, 4), [3, 8]):
            self.assertIs(is_step(value), False)


if __name__ == "__main__":
    unittest.main()
