"""Runs of days on which one and the same is so, which turns, spells and heads are told by."""

import unittest

from lightturns.runs import runs_of
from lightturns.stretches import Stretch


class Runs(unittest.TestCase):
    def test_without_changes(self):
        self.assertEqual(runs_of("a", []), [("a", Stretch(0))])

    def test_changes(self):
        self.assertEqual(runs_of("a", [(3, "b"), (4, "a")]), [("a", Stretch(0, 2)), ("b", Stretch(3, 3)), ("a", Stretch(4))])

    def test_a_change_on_day_0(self):
        self.assertEqual(runs_of("a", [(0, "b")]), [("b", Stretch(0))])
        self.assertEqual(runs_of("a", [(0, "b"), (1, "a")]), [("b", Stretch(0, 0)), ("a", Stretch(1))])

    def test_changes_to_the_same(self):
        self.assertEqual(runs_of(1, [(2, 1), (5, 2), (6, 2), (9, 1), (10, 1)]), [(1, Stretch(0, 4)), (2, Stretch(5, 8)), (1, Stretch(9))])


if __name__ == "__main__":
    unittest.main()
