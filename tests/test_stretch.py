"""A stretch [6]."""

import unittest
import unittest.mock

from lightturns.errors import NoDay
from lightturns.stretches import Stretch

FAR = 10**60 - 1
NO_DAYS = (-1, -FAR, True, False, "", "3", "3-7", b"3", [], [3], (), (3,), {}, {3: 7}, {3}, Stretch(3))


class Made(unittest.TestCase):
    def check(self, stretch, first, last):
        self.assertEqual((stretch.first(), stretch.last()), (first, last))

    def test_by_place_and_by_name(self):
        self.check(Stretch(3, 7), 3, 7)
        self.check(Stretch(first=3, last=7), 3, 7)
        self.check(Stretch(last=7, first=3), 3, 7)
        self.check(Stretch(3, last=7), 3, 7)

    def test_for_ever(self):
        self.check(Stretch(3), 3, None)
        self.check(Stretch(3, None), 3, None)
        self.check(Stretch(first=3, last=None), 3, None)

    def test_from_day_0_and_of_one_day(self):
        self.check(Stretch(0, 0), 0, 0)
        self.check(Stretch(0), 0, None)
        self.check(Stretch(5, 5), 5, 5)

    def test_far_days(self):
        self.check(Stretch(FAR - 1, FAR), FAR - 1, FAR)
        self.check(Stretch(0, FAR), 0, FAR)
        self.check(Stretch(FAR), FAR, None)

    def test_what_is_no_day(self):
        for thing in NO_DAYS:
            with self.subTest(thing):
                for made_of in ((thing,), (thing, 7), (thing, None), (thing, thing), (0, thing), (3, thing)):
                    with self.assertRaises(NoDay):
                        Stretch(*made_of)

    def test_none_is_no_first_day(self):
        for made_of in ((None,), (None, None), (None, 7)):
            with self.assertRaises(NoDay):
                Stretch(*made_of)

    def test_a_last_day_less_than_the_first(self):
        for first, last in ((1, 0), (7, 3), (8, 7), (FAR, FAR - 1), (FAR, 0)):
            with self.assertRaises(NoDay):
                Stretch(first, last)
            with self.assertRaises(NoDay):
                Stretch(last=last, first=first)


class Texts(unittest.TestCase):
    def test_repr(self):
        self.assertEqual(repr(Stretch(3, 7)), "Stretch(3, 7)")
        self.assertEqual(repr(Stretch(3)), "Stretch(3)")
        self.assertEqual(repr(Stretch(0, 0)), "Stretch(0, 0)")
        self.assertEqual(repr([Stretch(1, 2), Stretch(4)]), "[Stretch(1, 2), Stretch(4)]")

    def test_str(self):
        self.assertEqual(str(Stretch(3, 7)), "3-7")
        self.assertEqual(str(Stretch(3)), "3-")
        self.assertEqual(str(Stretch(0, 0)), "0-0")
        self.assertEqual(f"{Stretch(0)}", "0-")

    def test_far_days(self):
        nines = "9" * 60
        self.assertEqual(repr(Stretch(FAR - 1, FAR)), "Stretch(" + nines[1:] + "8, " + nines + ")")
        self.assertEqual(repr(Stretch(FAR)), "Stretch(" + nines + ")")
        self.assertEqual(str(Stretch(0, FAR)), "0-" + nines)
        self.assertEqual(str(Stretch(FAR)), nines + "-")


class Has(unittest.TestCase):
    def test_both_ends(self):
        stretch = Stretch(3, 7)
        told = [stretch.has(day) for day in range(11)]
        self.assertEqual(told, [False] * 3 + [True] * 5 + [False] * 3)
        for day in range(11):
            self.assertIsInstance(stretch.has(day), bool)

    def test_one_day(self):
        self.assertEqual([Stretch(1, 1).has(day) for day in range(3)], [False, True, False])
        self.assertEqual([Stretch(0, 0).has(day) for day in range(2)], [True, False])

    def test_for_ever(self):
        stretch = Stretch(3)
        self.assertEqual([stretch.has(day) for day in (0, 2, 3, 4, FAR)], [False, False, True, True, True])

    def test_far_days(self):
        stretch = Stretch(FAR - 2, FAR - 1)
        self.assertEqual([stretch.has(FAR - less) for less in (3, 2, 1, 0)], [False, True, True, False])
        self.assertIs(Stretch(0, FAR).has(FAR // 2), True)

    def test_by_name(self):
        self.assertIs(Stretch(3, 7).has(day=7), True)

    def test_what_is_no_day(self):
        for stretch in (Stretch(0, 7), Stretch(0), Stretch(3, 7)):
            for thing in (*NO_DAYS, None):
                with self.subTest(thing), self.assertRaises(NoDay):
                    stretch.has(thing)

    def test_true_and_false_asked_behind_1_and_0(self):
        stretch = Stretch(0, 7)
        for number, thing in ((1, True), (0, False)):
            self.assertIs(stretch.has(number), True)
            with self.assertRaises(NoDay):
                stretch.has(thing)
            self.assertIs(stretch.has(number), True)

    def test_a_refusal_changes_nothing(self):
        stretch = Stretch(3, 7)
        with self.assertRaises(NoDay):
            stretch.has(-1)
        self.assertEqual((stretch.first(), stretch.last(), repr(stretch)), (3, 7, "Stretch(3, 7)"))


class Equal(unittest.TestCase):
    def check(self, one, other, equal):
        self.assertIs(one == other, equal)
        self.assertIs(other == one, equal)
        self.assertIs(one != other, not equal)
        self.assertIs(other != one, not equal)

    def test_equal_ones(self):
        stretch = Stretch(3, 7)
        self.check(stretch, stretch, True)
        self.check(Stretch(3, 7), Stretch(3, 7), True)
        self.check(Stretch(3), Stretch(3, None), True)
        self.check(Stretch(FAR - 1, FAR), Stretch(FAR - 1, FAR), True)

    def test_unlike_ones(self):
        for first, last in ((2, 7), (4, 7), (3, 6), (3, 8), (3, None), (7, 7), (0, 0)):
            self.check(Stretch(3, 7), Stretch(first, last), False)
        self.check(Stretch(3), Stretch(4), False)
        self.check(Stretch(FAR), Stretch(FAR - 1), False)
        self.check(Stretch(0, FAR), Stretch(0, FAR - 1), False)

    def test_what_is_no_stretch(self):
        things = (None, True, False, 3, "3-7", "Stretch(3, 7)", [3, 7], (3, 7), {3: 7}, [Stretch(3, 7)], object())
        for thing in things:
            with self.subTest(thing):
                self.check(Stretch(3, 7), thing, False)
        self.check(Stretch(3), 3, False)

    def test_what_says_it_is_equal_to_anything(self):
        self.assertIs(Stretch(3, 7) == unittest.mock.ANY, False)

    def test_within_lists(self):
        self.check([Stretch(1, 2), Stretch(4)], [Stretch(1, 2), Stretch(4)], True)
        self.check([Stretch(1, 2), Stretch(4)], [Stretch(4), Stretch(1, 2)], False)
        self.check((Stretch(1, 2),), (Stretch(1, 3),), False)
        self.assertIn(Stretch(4), [Stretch(1, 2), Stretch(4)])
        self.assertNotIn(Stretch(5), [Stretch(1, 2), Stretch(4)])
        self.assertEqual([Stretch(1, 2), Stretch(4)].index(Stretch(4)), 1)


if __name__ == "__main__":
    unittest.main()
