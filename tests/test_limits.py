"""Tests of switchhills.limits."""

import unittest

from switchhills import limits


class Limits(unittest.TestCase):
    def test_numbers(self):
        numbers = {name: value for name, value in vars(limits).items() if name.isupper()}
        self.assertEqual(
            numbers,
            {"MOST_SWITCHES": 5, "MOST_SETTINGS": 48, "MOST_SEARCHED": 16, "MOST_COUNTED": 8},
        )
        self.assertEqual({type(value) for value in numbers.values()}, {int})


if __name__ == "__main__":
    unittest.main()
