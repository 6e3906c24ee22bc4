"""The first weather of a kind that is not of another one [2, 4, 9]."""

import random
import unittest

from lightturns.kinds import Kind
from lightturns.makings import never_more, one_in
from lightturns.pairs import beyond
from tables_of import circle, path, some_table, weathers


def first_beyond(table, other, most):
    """By going through all weathers of up to so many days, the first ones first."""
    others = weathers(other, most)
    for weather in weathers(table, most):
        if weather not in others:
            return weather
    return None


class Beyond(unittest.TestCase):
    def check(self, one, other, told, back):
        """What is of the one and not of the other, and of the other and not of the one."""
        kind, also = Kind(one), Kind(other)
        self.assertEqual(beyond(kind, also), told)
        self.assertEqual(beyond(kind=kind, other=also), told)
        self.assertEqual(beyond(other=kind, kind=also), back)
        self.assertEqual(beyond(also, kind), back)

    def test_none(self):
        self.check([{"a": 0}], [{"a": 0}], None, None)
        self.check([{"a": 0}], circle(1000), None, None)
        self.check([{"a": 0}], [{"a": 0, "b": 0}], None, "b")
        self.check([{"b": 0}], [{"a": 0, "b": 0}], None, "a")
        self.check(path("abc"), [dict.fromkeys("abc", 0)], None, "b")

    def test_on_the_first_day(self):
        self.check([{"a": 0}], [{"b": 0}], "a", "b")
        self.check([{"z": 0, "m": 0, "b": 0, "a": 0}], [{"a": 0}], "b", None)
        self.check([{"z": 0, "m": 0, "b": 0, "a": 0}], [{"z": 0, "b": 0}], "a", None)

    def test_fewer_days_go_first(self):
        one = [{"a": 1, "b": 2}, {"a": 3}, {"z": 3}, {"c": 3}]
        other = [{"a": 1, "b": 2}, {"a": 3}, {"y": 3}, {"d": 3}]
        self.check(one, other, "bz", "by")

    def test_of_as_many_days_the_first_as_texts(self):
        one = [{"b": 1, "a": 2}, {"a": 0}, {"z": 0, "y": 0}]
        other = [{"b": 1, "a": 2}, {"b": 0}, {"b": 0}]
        self.check(one, other, "ay", "ab")

    def test_letters_of_a_row_in_any_order(self):
        self.check([{"c": 0, "a": 0, "b": 0}], [{"c": 0}], "a", None)
        self.check([{"c": 1, "b": 1, "a": 1}, {"y": 1, "x": 1}], [{"b": 1, "a": 1, "c": 1}, {"w": 1}], "ax", "aw")

    def test_the_first_of_two_ways_to_one_pair(self):
        one = [{"b": 1, "a": 2}, {"a": 3}, {"b": 3}, {"c": 3}]
        other = [{"a": 2, "b": 1}, {"a": 3}, {"b": 3}, {"d": 3}]
        self.check(one, other, "abc", "abd")

    def test_a_longer_way_that_is_first_as_a_text(self):
        one = [{"a": 1, "b": 2}, {"a": 2}, {"c": 2}]
        other = [{"a": 1, "b": 2}, {"a": 2}, {"d": 2}]
        self.check(one, other, "bc", "bd")

    def test_beside_itself(self):
        for table in ([{"a": 0}], circle(1000, "ab"), path("abcab")):
            kind = Kind(table)
            self.assertIsNone(beyond(kind, kind))
            self.assertIsNone(beyond(kind, Kind(table)))

    def test_rows_to_which_no_weather_comes(self):
        self.check([{"a": 0}, {"b": 0}], [{"a": 0}], None, None)
        self.check([{"a": 0}, {"b": 0}], [{"a": 1}, {"a": 0}], None, None)

    def test_after_many_days(self):
        for days in (1, 2, 50, 400, 999):
            long = [{"a": k + 1} for k in range(days)] + [{"b": days}]
            self.check([{"a": 0}], long, "a" * (days + 1), "a" * days + "b")

    def test_after_more_days_than_rows(self):
        one = circle(30)[:-1] + [{"a": 0, "b": 0}]
        other = circle(31)[:-1] + [{"a": 0, "b": 0}]
        self.check(one, other, "a" * 29 + "b", "a" * 30 + "b")
        self.check(one, circle(31), "a" * 29 + "b", None)
        # The day of 30 times 31 is the first on which both stand in their last rows.
        self.check(one, circle(31, "ab")[:-1] + [{"a": 0}], "a" * 929 + "b", "b")

    def test_made_kinds(self):
        self.assertEqual(beyond(never_more("ab", "a", 3), never_more("ab", "a", 2)), "aaa")
        self.assertIsNone(beyond(never_more("ab", "a", 2), never_more("ab", "a", 3)))
        self.assertEqual(beyond(one_in("abc", "b", 60), one_in("abc", "b", 59)), "a" * 59)
        self.assertIsNone(beyond(one_in("abc", "b", 59), one_in("abc", "b", 60)))

    def test_many_rows(self):
        self.check(circle(200), circle(199), None, None)
        # The pairs of two such circles are all come to: 199 times 200 days it takes to the last of them.
        last = circle(199)[:-1] + [{"b": 0}]
        self.assertEqual(beyond(Kind(circle(200)), Kind(last)), "a" * 199)
        self.assertEqual(beyond(Kind(last), Kind(circle(200))), "a" * 198 + "b")
        grown = [dict(row) for row in circle(200)]
        grown[199]["b"] = 0
        shrunk = circle(199, "ab")
        shrunk[198].pop("b")
        self.assertEqual(beyond(Kind(grown), Kind(circle(199, "ab"))), None)
        told = beyond(Kind(grown), Kind(shrunk))
        self.check_told(Kind(grown), Kind(shrunk), told)
        # Day d (from 0) is a b of the one where d + 1 is a multiple of 200, none of the other where of 199.
        self.assertEqual(told, "a" * (199 * 200 - 1) + "b")

    def check_told(self, kind, other, told):
        self.assertIsNotNone(kind.after(told))
        self.assertIsNone(other.after(told))
        self.assertIsNotNone(other.after(told[:-1]))

    def test_against_the_plain_words(self):
        dice = random.Random(9)
        found = {}
        for time in range(1500):
            letters = dice.choice(["ab", "abc"])
            one = some_table(dice, dice.randrange(1, 4), letters)
            other = some_table(dice, dice.randrange(1, 4), letters)
            kind, also = Kind(one), Kind(other)
            told = beyond(kind, also)
            if told is None:
                self.assertIsNone(first_beyond(one, other, 6))
            else:
                self.check_told(kind, also, told)
                if len(told) <= 7:
                    self.assertEqual(told, first_beyond(one, other, len(told)))
            days = None if told is None else len(told)
            found[days] = found.get(days, 0) + 1
        self.assertTrue(all(found.get(days, 0) > 3 for days in (None, 1, 2, 3, 4)), found)

    def test_asked_again_and_the_kinds_stay(self):
        one, other = [{"b": 1, "a": 0}, {"c": 0}], [{"b": 1, "a": 0}, {"d": 0}]
        kind, also = Kind(one), Kind(other)
        for time in range(3):
            self.assertEqual(beyond(kind, also), "bc")
            self.assertEqual(beyond(also, kind), "bd")
            self.assertEqual((kind.table(), also.table()), (one, other))


if __name__ == "__main__":
    unittest.main()
