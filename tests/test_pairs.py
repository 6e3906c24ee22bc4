"""Kinds made of two: both, either [2, 4, 10]."""

import random
import unittest

from lightturns.errors import NoWeather, TooMany
from lightturns.kinds import Kind
from lightturns.makings import never_more, one_in
from lightturns.pairs import beyond, both_kinds, either_kind
from tables_of import circle, some_table, weathers


def ends_of(one, other, pair, days):
    """Does what is of both come to an end within so many days from the pair on, whichever way it goes on?"""
    pairs = {pair}
    for day in range(days):
        pairs = {
            (one[row][letter], other[also][letter])
            for row, also in pairs for letter in one[row] if letter in other[also]
        }
    return not pairs


def both_table(one, other):
    """The table of both by the plain words of [10], or None where the first pair doesn't go on."""
    days = len(one) * len(other) + 1
    if ends_of(one, other, (0, 0), days):
        return None
    pairs, table = [(0, 0)], []
    while len(table) < len(pairs):
        row, also = pairs[len(table)]
        leads = {}
        for letter in sorted(set(one[row]) & set(other[also])):
            pair = (one[row][letter], other[also][letter])
            if ends_of(one, other, pair, days):
                continue
            if pair not in pairs:
                pairs.append(pair)
            leads[letter] = pairs.index(pair)
        table.append(leads)
    return table


def either_pairs(one, other, most):
    """The pairs of either, with None, in the order of the first weathers of up to so many days."""
    ones, others = weathers(one, most), weathers(other, most)
    pairs = []
    for weather in sorted({**ones, **others}, key=lambda each: (len(each), each)):
        pair = (ones.get(weather), others.get(weather))
        if pair not in pairs:
            pairs.append(pair)
    return pairs


class Both(unittest.TestCase):
    def check(self, one, other, table):
        kind, also = Kind(one), Kind(other)
        self.assertEqual(both_kinds(kind, also).table(), table)
        self.assertEqual(both_kinds(kind=kind, other=also).table(), table)
        self.assertEqual(both_kinds(other=also, kind=kind).table(), table)
        self.assertIs(type(both_kinds(kind, also)), Kind)

    def refused(self, one, other, error):
        for ask in (
            lambda: both_kinds(Kind(one), Kind(other)), lambda: both_kinds(Kind(other), Kind(one)),
            lambda: both_kinds(kind=Kind(one), other=Kind(other)),
        ):
            with self.assertRaises(error):
                ask()

    def test_one_row_each(self):
        self.check([{"a": 0}], [{"a": 0}], [{"a": 0}])
        self.check([{"a": 0, "b": 0}], [{"b": 0, "c": 0}], [{"b": 0}])

    def test_rows_in_the_order_of_the_first_weathers(self):
        one = [{"c": 1, "b": 2, "a": 3}, {"a": 1}, {"a": 2}, {"a": 3}]
        self.check(one, [{"a": 0, "b": 0, "c": 0}], [{"a": 1, "b": 2, "c": 3}, {"a": 1}, {"a": 2}, {"a": 3}])
        # Two days go behind one, whatever the letters: c is met before aa.
        one = [{"a": 1, "c": 2}, {"a": 3}, {"b": 2}, {"d": 3}]
        self.check(one, [dict.fromkeys("abcd", 0)], [{"a": 1, "c": 2}, {"a": 3}, {"b": 2}, {"d": 3}])
        one = [{"c": 3, "a": 1}, {"a": 2}, {"d": 2}, {"b": 3}]
        self.check(one, [dict.fromkeys("abcd", 0)], [{"a": 1, "c": 2}, {"a": 3}, {"b": 2}, {"d": 3}])

    def test_circles(self):
        self.check(circle(2), circle(3), circle(6))
        self.check(circle(4), circle(6), circle(12))
        self.check(circle(3, "ab"), circle(3, "bc"), circle(3, "b"))

    def test_of_two_made_ones(self):
        told = both_kinds(never_more("ab", "a", 2), one_in("ab", "a", 3)).table()
        self.assertEqual(told, [{"a": 1, "b": 2}, {"a": 3, "b": 2}, {"a": 1, "b": 4}, {"b": 2}, {"a": 1}])

    def test_pairs_that_do_not_go_on_are_left_out(self):
        one = [{"a": 0, "b": 1}, {"c": 1}]
        other = [{"a": 0, "b": 1}, {"d": 1}]
        self.check(one, other, [{"a": 0}])

    def test_pairs_that_come_to_an_end_after_many_days(self):
        for days in (1, 2, 50, 400, 990):
            # Row 0 stays by an a; a b leads to a path of so many days, on which both go, and then both part.
            one = [{"a": 0, "b": 1}] + [{"c": k + 2} for k in range(days)] + [{"d": days + 1}]
            other = [{"a": 0, "b": 1}] + [{"c": k + 2} for k in range(days)] + [{"e": days + 1}]
            self.check(one, other, [{"a": 0}])

    def test_a_long_way_that_leads_back_stays(self):
        for days in (1, 2, 50, 398):
            way = [{"a": 0, "b": 1}] + [{"c": k + 2} for k in range(days)]
            self.check(way + [{"d": 0}], way + [{"d": 0, "e": 0}], way + [{"d": 0}])

    def test_ways_that_part_again_and_all_come_to_an_end(self):
        one = [{"a": 0, "b": 1}, {"a": 2, "b": 3}, {"a": 3}, {"a": 4, "c": 4}, {"x": 4}]
        other = [{"a": 0, "b": 1}, {"a": 2, "b": 3}, {"a": 3}, {"a": 4, "c": 4}, {"y": 4}]
        self.check(one, other, [{"a": 0}])
        # With one way back among them, just the ways to it are left.
        one[3]["d"] = other[3]["d"] = 1
        self.check(one, other, [{"a": 0, "b": 1}, {"a": 2, "b": 3}, {"a": 3}, {"d": 1}])

    def test_two_letters_to_one_end(self):
        one = [{"a": 0, "b": 1, "c": 1}, {"d": 1}]
        self.check(one, [{"a": 0, "b": 1, "c": 1}, {"e": 1}], [{"a": 0}])
        self.check(one, [{"a": 0, "b": 1, "c": 1}, {"d": 1}], [{"a": 0, "b": 1, "c": 1}, {"d": 1}])

    def test_what_the_rows_have_apart_is_left_out(self):
        self.check([{"a": 0, "b": 1, "z": 1}, {"b": 1, "a": 0}], [{"a": 0, "b": 0}], [{"a": 0, "b": 1}, {"a": 0, "b": 1}])

    def test_no_weather(self):
        self.refused([{"a": 0}], [{"b": 0}], NoWeather)
        self.refused([{"a": 1}, {"b": 1}], [{"a": 1}, {"c": 1}], NoWeather)
        self.refused([{"a": 0}], [{"a": 1}, {"b": 1}], NoWeather)
        self.refused([{"a": 1, "b": 2}, {"c": 1}, {"d": 2}], [{"a": 1, "b": 2}, {"e": 1}, {"f": 2}], NoWeather)
        for days in (2, 50, 400, 999):
            self.refused([{"a": 0}], [{"a": k + 1} for k in range(days)] + [{"b": 0}], NoWeather)
        self.refused(circle(30)[:-1] + [{"b": 0}], circle(31), NoWeather)
        self.assertRaises(NoWeather, both_kinds, never_more("ab", "a", 2), one_in("ac", "a", 5))

    def test_no_weather_though_the_pairs_are_many(self):
        # More than 400 pairs are come to, of which none goes on.
        one = [{"a": k + 1, "b": k + 1} for k in range(600)] + [{"a": 600}]
        self.refused(one, [{"a": k + 1} for k in range(600)] + [{"b": 600}], NoWeather)

    def test_too_many(self):
        self.refused(circle(401), [{"a": 0}], TooMany)
        self.refused(circle(20), circle(21), TooMany)
        self.refused(circle(3), circle(134), TooMany)
        self.refused(circle(300), circle(299), TooMany)
        self.refused([{"a": k + 1} for k in range(400)] + [{"b": 400}], [{"a": 0, "b": 0}], TooMany)

    def test_just_400(self):
        self.check(circle(400), [{"a": 0}], circle(400))
        self.check(circle(16), circle(25), circle(400))
        self.check(circle(400), circle(400, "ab"), circle(400))
        self.check(circle(1000)[:399] + [{"a": 399}], [{"a": 0}], circle(1000)[:399] + [{"a": 399}])

    def test_pairs_that_do_not_go_on_are_not_counted(self):
        # A circle of 400 rows, from each of which a b leads to a path that comes to an end.
        path_rows = [{"c": 401 + k} for k in range(300)]
        one = [{"a": (k + 1) % 400, "b": 400} for k in range(400)] + path_rows + [{"d": 700}]
        other = [{"a": 0, "b": 1}] + [{"c": 2 + k} for k in range(300)] + [{"e": 301}]
        self.check(one, other, circle(400))
        more = [{"a": (k + 1) % 401, "b": 401} for k in range(401)] + [{"c": 402 + k} for k in range(300)] + [{"d": 701}]
        self.refused(more, other, TooMany)

    def test_pairs_to_which_no_weather_comes_are_not_counted(self):
        self.check(circle(1) + circle(999), [{"a": 0}] * 1000, [{"a": 0}])

    def test_against_the_plain_words(self):
        dice = random.Random(12)
        found = {}
        for time in range(800):
            letters = dice.choice(["ab", "abc", "abcd"])
            one = some_table(dice, dice.randrange(1, 5), letters)
            other = some_table(dice, dice.randrange(1, 5), letters)
            table = both_table(one, other)
            if table is None:
                with self.assertRaises(NoWeather):
                    both_kinds(Kind(one), Kind(other))
            else:
                self.check(one, other, table)
            many = 0 if table is None else min(len(table), 4)
            found[many] = found.get(many, 0) + 1
        self.assertTrue(all(found.get(many, 0) > 20 for many in (0, 1, 2, 3, 4)), found)

    def test_a_weather_is_of_it_just_where_it_is_of_both_and_its_pair_goes_on(self):
        dice = random.Random(13)
        asked = {True: 0, False: 0, None: 0}
        for time in range(200):
            one, other = some_table(dice, 4, "abc"), some_table(dice, 4, "abc")
            if both_table(one, other) is None:
                continue
            both = both_kinds(Kind(one), Kind(other))
            ones, others = weathers(one, 4), weathers(other, 4)
            for weather in {**ones, **others}:
                of_both = weather in ones and weather in others
                goes_on = of_both and not ends_of(one, other, (ones[weather], others[weather]), 17)
                self.assertEqual(both.after(weather) is not None, goes_on)
                asked[goes_on if of_both else None] += 1
        self.assertGreater(min(asked.values()), 50, asked)


class Either(unittest.TestCase):
    def check(self, one, other, table):
        kind, also = Kind(one), Kind(other)
        self.assertEqual(either_kind(kind, also).table(), table)
        self.assertEqual(either_kind(kind=kind, other=also).table(), table)
        self.assertEqual(either_kind(other=also, kind=kind).table(), table)
        self.assertIs(type(either_kind(kind, also)), Kind)
        self.assertIs(either_kind(also, kind) == either_kind(kind, also), True)

    def refused(self, one, other):
        for ask in (
            lambda: either_kind(Kind(one), Kind(other)), lambda: either_kind(Kind(other), Kind(one)),
            lambda: either_kind(kind=Kind(one), other=Kind(other)),
        ):
            with self.assertRaises(TooMany):
                ask()

    def test_one_row_each(self):
        self.check([{"a": 0}], [{"a": 0}], [{"a": 0}])
        self.check([{"a": 0}], [{"b": 0}], [{"a": 1, "b": 2}, {"a": 1}, {"b": 2}])
        self.check([{"b": 0}], [{"a": 0}], [{"a": 1, "b": 2}, {"a": 1}, {"b": 2}])
        self.check([{"a": 0}], [{"a": 0, "b": 0}], [{"a": 0, "b": 1}, {"a": 1, "b": 1}])
        self.check([{"a": 0, "b": 0}], [{"a": 0}], [{"a": 0, "b": 1}, {"a": 1, "b": 1}])

    def test_not_all_that_the_letters_could_be(self):
        either = either_kind(Kind([{"a": 0}]), Kind([{"b": 0}]))
        self.assertEqual([either.after(weather) for weather in ("", "aa", "bb", "ab", "ba")], [0, 1, 2, None, None])

    def test_rows_in_the_order_of_the_first_weathers(self):
        one = [{"c": 1, "a": 2}, {"a": 1}, {"d": 2}]
        other = [{"b": 1, "a": 2}, {"b": 1}, {"a": 0}]
        # (0,0); a (2,2), b (None,1), c (1,None); aa (None,0), ad (2,None); aab (None,1), aaa (None,2).
        self.check(one, other, [
            {"a": 1, "b": 2, "c": 3}, {"a": 4, "d": 5}, {"b": 2}, {"a": 3}, {"a": 6, "b": 2}, {"d": 5}, {"a": 4},
        ])

    def test_the_same_row_with_and_without_the_other(self):
        # a comes to (0, 0) again, b to (0, None): rows of their own, though both are row 0 of the one.
        self.check([{"a": 0, "b": 0}], [{"a": 1}, {"a": 1}], [{"a": 1, "b": 2}, {"a": 1, "b": 2}, {"a": 2, "b": 2}])

    def test_circles(self):
        self.check(circle(2), circle(3), circle(6))
        self.check(circle(2, "a"), circle(2, "b"), [{"a": 1, "b": 2}, {"a": 3}, {"b": 4}, {"a": 1}, {"b": 2}])

    def test_too_many(self):
        self.refused(circle(401), [{"a": 0}])
        self.refused(circle(20), circle(21))
        self.refused(circle(200), circle(201, "b"))
        self.refused(circle(1000), circle(1000, "b"))
        self.refused([{"a": k + 1} for k in range(400)] + [{"b": 400}], [{"a": 0, "b": 0}])

    def test_just_400(self):
        self.check(circle(400), [{"a": 0}], circle(400))
        self.check(circle(16), circle(25), circle(400))
        told = either_kind(Kind(circle(200)), Kind(circle(199, "b")))
        self.assertEqual(len(told), 400)
        self.assertEqual([told.after(text) for text in ("", "a", "b", "aa", "ab", "a" * 201)], [0, 1, 2, 3, None, 1])

    def test_against_the_plain_words(self):
        dice = random.Random(14)
        sides = set()
        for time in range(400):
            letters = dice.choice(["ab", "abc"])
            one = some_table(dice, dice.randrange(1, 3), letters)
            other = some_table(dice, dice.randrange(1, 3), letters)
            pairs = either_pairs(one, other, 8)
            sides.update((row is None, also is None) for row, also in pairs)
            table = []
            for row, also in pairs:
                leads = {}
                for letter in letters:
                    pair = (
                        one[row].get(letter) if row is not None else None,
                        other[also].get(letter) if also is not None else None,
                    )
                    if pair != (None, None):
                        leads[letter] = pairs.index(pair)
                table.append(leads)
            self.check(one, other, table)
        self.assertEqual(sides, {(False, False), (False, True), (True, False)})

    def test_a_weather_is_of_it_just_where_it_is_of_one_of_them(self):
        dice = random.Random(15)
        all_of_four = weathers([dict.fromkeys("abcd", 0)], 4)
        for time in range(100):
            one, other = some_table(dice, 4, "abc"), some_table(dice, 4, "bcd")
            either = either_kind(Kind(one), Kind(other))
            ones, others = weathers(one, 4), weathers(other, 4)
            for weather in all_of_four:
                self.assertEqual(either.after(weather) is not None, weather in ones or weather in others)


class OfTwoKinds(unittest.TestCase):
    def kinds(self, times, letters="abc"):
        dice = random.Random(16)
        for time in range(times):
            yield [Kind(some_table(dice, dice.randrange(1, 5), letters)) for number in range(3)]

    def test_what_is_of_both_is_of_each(self):
        made = 0
        for kind, other, third in self.kinds(300):
            try:
                both = both_kinds(kind, other)
            except NoWeather:
                continue
            made += 1
            self.assertIsNone(beyond(both, kind))
            self.assertIsNone(beyond(both, other))
            self.assertIs(both == both_kinds(other, kind), True)
        self.assertGreater(made, 100)

    def test_either_takes_in_each(self):
        for kind, other, third in self.kinds(300):
            either = either_kind(kind, other)
            self.assertIsNone(beyond(kind, either))
            self.assertIsNone(beyond(other, either))
            self.assertIs(either == either_kind(other, kind), True)

    def test_with_itself(self):
        for kind, other, third in self.kinds(200):
            for each in (kind, other, third):
                self.assertIs(both_kinds(each, each) == each, True)
                self.assertIs(either_kind(each, each) == each, True)
                self.assertIs(both_kinds(each, Kind(each.table())) == each, True)

    def test_where_each_weather_of_the_one_is_of_the_other(self):
        found = 0
        for kind, other, third in self.kinds(300, "ab"):
            if beyond(kind, other) is None:
                found += 1
                self.assertIs(both_kinds(kind, other) == kind, True)
                self.assertIs(either_kind(kind, other) == other, True)
        self.assertGreater(found, 20)

    def test_both_of_either_and_a_third_is_either_of_both(self):
        made = 0
        for kind, other, third in self.kinds(400):
            try:
                both = both_kinds(kind, third)
                also = both_kinds(other, third)
            except NoWeather:
                continue
            made += 1
            self.assertIs(both_kinds(either_kind(kind, other), third) == either_kind(both, also), True)
        self.assertGreater(made, 100)

    def test_asked_again_and_the_kinds_stay(self):
        one, other = [{"b": 1, "a": 0}, {"c": 0}], [{"b": 1, "a": 0}, {"c": 0, "d": 0}]
        both = [{"a": 0, "b": 1}, {"c": 0}]
        either = [{"a": 0, "b": 1}, {"c": 0, "d": 2}, {"a": 2, "b": 3}, {"c": 2, "d": 2}]
        kind, also = Kind(one), Kind(other)
        for time in range(3):
            self.assertEqual(both_kinds(kind, also).table(), both)
            self.assertEqual(either_kind(kind, also).table(), either)
            self.assertEqual((kind.table(), also.table()), (one, other))

    def test_a_made_kind_is_one_of_its_own(self):
        kind, also = Kind([{"a": 0}]), Kind([{"a": 0}])
        for make in (both_kinds, either_kind):
            made = make(kind, also)
            made.table()[0]["b"] = 0
            self.assertEqual((made.table(), kind.table(), also.table()), ([{"a": 0}], [{"a": 0}], [{"a": 0}]))
            self.assertIsNot(made, kind)

    def test_a_refusal_changes_nothing(self):
        kind, also = Kind([{"a": 0}]), Kind([{"b": 0}])
        with self.assertRaises(NoWeather):
            both_kinds(kind, also)
        self.assertEqual((kind.table(), also.table()), ([{"a": 0}], [{"b": 0}]))
        self.assertEqual(either_kind(kind, also).table(), [{"a": 1, "b": 2}, {"a": 1}, {"b": 2}])


if __name__ == "__main__":
    unittest.main()
