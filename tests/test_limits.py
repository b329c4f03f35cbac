"""The bounds have the values that the interface tells."""

import unittest

from rimorders import limits


class Limits(unittest.TestCase):

    def test_values(self):
        told = {
            "MOST_COUNT": 1000000000000000000000000000000,
            "MOST_MARK": 40,
            "MOST_PART": 60,
            "MOST_SIGHTINGS": 20,
            "MOST_LISTED": 12,
            "MOST_COUNTED": 2000,
        }
        for name, number in told.items():
            with self.subTest(name):
                self.assertIs(type(getattr(limits, name)), int)
                self.assertEqual(getattr(limits, name), number)


if __name__ == "__main__":
    unittest.main()
