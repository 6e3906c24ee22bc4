"""Whole numbers and days [2, 6]."""

import unittest

from lightturns.wholes import is_day, is_from, is_whole, is_within, parts_for

FAR = 10**60 - 1


class Wholes(unittest.TestCase):
    def test_ints_are_whole_numbers(self):
        for number in (0, 1, -1, FAR, -FAR):
            self.assertIs(is_whole(number), True)

    def test_days_are_whole_numbers_from_0_on(self):
        for number in (0, 1, FAR):
            self.assertIs(is_day(number), True)
        for number in (-1, -FAR):
            self.assertIs(is_day(number), False)

    def test_nothing_else_is_one(self):
        for thing in (True, False, None, "", "1", b"1", [], [1], (), (1,), {}, {1: 1}, {1}, object()):
            with self.subTest(thing):
                self.assertIs(is_whole(thing), False)
                self.assertIs(is_day(thing), False)
                self.assertIs(is_from(thing, -FAR), False)
                self.assertIs(is_within(thing, -FAR, FAR), False)

    def test_from_one_on(self):
        self.assertEqual([is_from(number, 1) for number in (-1, 0, 1, 2, FAR)], [False, False, True, True, True])

    def test_parts_for(self):
        self.assertEqual([parts_for(many, 3) for many in range(8)], [0, 1, 1, 1, 2, 2, 2, 3])
        self.assertEqual(parts_for(FAR, 1), FAR)
        self.assertEqual(parts_for(FAR, FAR - 1), 2)

    def test_within_both_ends(self):
        self.assertEqual([is_within(number, 2, 4) for number in range(-1, 7)], [False] * 3 + [True] * 3 + [False] * 2)
        self.assertIs(is_within(FAR, 0, FAR - 1), False)
        self.assertIs(is_within(FAR, FAR, FAR), True)


if __name__ == "__main__":
    unittest.main()
