"""The bounds."""

import unittest

from remadeclasses import bounds

TOLD = {
    "MOST_ROWS": 4,
    "MOST_NEST": 2,
    "MOST_OFFERS": 8,
    "MOST_STAGES": 3,
    "MOST_STEPS": 4,
    "MOST_PARTS": 4,
    "MOST_RUNS": 40,
    "MOST_ENTRIES": 60,
    "MOST_PAIRS": 200,
    "MOST_DEEDS": 400,
}


class Bounds(unittest.TestCase):
    def test_each_number_is_as_told(self):
        for name, number in TOLD.items():
            with self.subTest(name=name):
                found = getattr(bounds, name)
                self.assertIs(type(found), int)
                self.assertEqual(found, number)

    def test_there_are_no_others(self):
        names = [name for name in vars(bounds) if not name.startswith("_")]
        self.assertEqual(sorted(names), sorted(TOLD))
