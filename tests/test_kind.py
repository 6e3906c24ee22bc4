"""Kinds of weather: their tables, the rows after weathers, equal kinds [2, 8, 9]."""

import copy
import random
import string
import unittest
import unittest.mock

from lightturns.errors import NoKind
from lightturns.kinds import Kind
from tables_of import circle, path, some_table, weathers

SMALL = string.ascii_lowercase
SIGNS = [chr(code) for code in range(32, 127) if chr(code) not in SMALL] + ["\n"]
NO_LETTERS = (
    "", "ab", "aa", "A", "1", " ", "-", "a ", " a", "a\n", "\n", None, True, False, 0, 1, b"a", ("a",), (), ("a", "b"),
)
TWO_ROWS = [{"a": 1, "b": 0}, {"b": 0}]


class Made(unittest.TestCase):
    def check(self, table):
        for handed in (list(table), tuple(table)):
            for kind in (Kind(handed), Kind(table=handed)):
                self.assertEqual(kind.table(), list(table))
                self.assertEqual(len(kind), len(table))
                self.assertIs(type(kind.table()), list)
                self.assertTrue(all(type(row) is dict for row in kind.table()))

    def test_one_row(self):
        self.check([{"a": 0}])
        self.check([{"z": 0, "a": 0, "m": 0}])
        self.check([dict.fromkeys(SMALL, 0)])

    def test_several_rows(self):
        self.check(TWO_ROWS)
        self.check([{"b": 2}, {"a": 1}, {"c": 0, "a": 2}])

    def test_a_thousand_rows(self):
        self.check(circle(1000))
        self.check([{"a": 999}] * 1000)
        self.check([{"a": 999, "b": 0}] * 999 + [{"q": 998}])

    def test_rows_to_which_no_weather_comes(self):
        self.check([{"a": 0}, {"b": 0}, {"c": 1}])

    def test_one_dict_for_many_rows(self):
        row = {"a": 1}
        self.check([row, row])
        self.check([row, row, {"b": 0}, row])

    def test_any_random_table(self):
        dice = random.Random(3)
        for time in range(200):
            self.check(some_table(dice, dice.randrange(1, 9), "abcxyz"[: dice.randrange(1, 7)]))


class Refused(unittest.TestCase):
    def check(self, thing):
        with self.subTest(thing=thing):
            with self.assertRaises(NoKind):
                Kind(thing)
            with self.assertRaises(NoKind):
                Kind(table=thing)

    def test_no_list(self):
        for thing in (
            None, True, False, 0, 1, -1, "", "a", "abc", b"a", {}, {"a": 0}, {0: {"a": 0}}, {"a"}, object(), Kind,
            Kind([{"a": 0}]), range(1), iter([{"a": 0}]),
        ):
            self.check(thing)

    def test_no_rows(self):
        self.check([])
        self.check(())

    def test_a_thousand_and_one(self):
        self.check(circle(1001))
        self.check(tuple(circle(1001)))
        self.check([{"a": 0}] * 1001)

    def test_what_is_no_row(self):
        good = {"a": 0}
        for bad in (None, True, 0, 1, "", "a", b"a", [], ["a"], [("a", 0)], (), ("a", 0), {"a"}, {}, object(), Kind([good])):
            for table in ([bad], [bad, good], [good, bad], [good, bad, good]):
                self.check(table)
                self.check(tuple(table))

    def test_a_key_that_is_no_letter(self):
        for bad in NO_LETTERS + tuple(SIGNS) + tuple(SMALL.upper()):
            self.check([{bad: 0}])
            self.check([{"a": 0, bad: 0}])
            self.check([{bad: 0, "a": 0}])
            self.check([{"a": 0}, {"a": 1, "b": 0, bad: 1}])
            self.check([{"a": 0, bad: 1}, {"a": 1}])

    def test_a_number_that_is_no_rows(self):
        for bad in (-1, -2, -10**59, 2, 3, 10**59, True, False, None, "", "0", "1", "a", b"0", [], [0], (), (0,), {}, {"a": 0}):
            self.check([{"a": bad}, {"a": 0}])
            self.check([{"a": 0}, {"a": bad}])
            self.check([{"a": 0, "b": bad}, {"a": 1}])
            self.check([{"b": bad, "a": 0}, {"a": 1}])
        self.check([{"a": 1}])
        self.check([{"a": 0}] * 999 + [{"a": 1000}])

    def test_a_refusal_changes_nothing(self):
        table = [{"a": 0, "b": 1}, {"a": 2}]
        with self.assertRaises(NoKind):
            Kind(table)
        self.assertEqual(table, [{"a": 0, "b": 1}, {"a": 2}])


class HandedInAndTold(unittest.TestCase):
    def changes(self):
        """What may be done to a table of the kind of TWO_ROWS."""
        yield lambda table: table[0].update(c=0)
        yield lambda table: table[1].update(a=1)
        yield lambda table: table[0].pop("b")
        yield lambda table: table[0].update(a=0)
        yield lambda table: table[1].clear()
        yield lambda table: table.append({"a": 0})
        yield lambda table: table.pop()
        yield lambda table: table.clear()
        yield lambda table: table.reverse()
        yield lambda table: table.__setitem__(0, {"z": 0})
        yield lambda table: table[0].update(a=17)

    def check_as_made(self, kind):
        self.assertEqual(kind.table(), TWO_ROWS)
        self.assertEqual(len(kind), 2)
        told = [kind.after(weather) for weather in ("", "a", "b", "c", "ab", "aa", "aab", "bab")]
        self.assertEqual(told, [0, 1, 0, None, 0, None, None, 0])
        self.assertIs(kind == Kind(TWO_ROWS), True)

    def test_a_table_handed_in_stays(self):
        table = [{"b": 0, "a": 1}, {"b": 0}]
        rows = list(table)
        kind = Kind(table)
        self.check_as_made(kind)
        self.assertEqual(table, TWO_ROWS)
        self.assertTrue(all(one is other for one, other in zip(table, rows)))
        self.assertEqual([list(row) for row in table], [["b", "a"], ["b"]])

    def test_a_table_handed_in_and_changed_behind(self):
        for change in self.changes():
            table = copy.deepcopy(TWO_ROWS)
            kind = Kind(table)
            change(table)
            self.check_as_made(kind)

    def test_rows_in_a_tuple_changed_behind(self):
        table = tuple(copy.deepcopy(TWO_ROWS))
        kind = Kind(table)
        table[0].clear()
        table[1].update(a=1)
        self.check_as_made(kind)

    def test_a_told_table_changed_behind(self):
        for change in self.changes():
            kind = Kind(TWO_ROWS)
            told, kept = kind.table(), kind.table()
            change(told)
            self.check_as_made(kind)
            self.assertEqual(kept, TWO_ROWS)

    def test_no_two_rows_that_are_told_are_one(self):
        row = {"a": 0}
        for handed in ([row, row, row], (row, row), [row] * 1000):
            kind = Kind(handed)
            told = kind.table()
            self.assertEqual(len({id(each) for each in told}), len(handed))
            self.assertFalse(any(each is row for each in told))
            told[0]["b"] = 1
            self.assertEqual(told[1], {"a": 0})
            self.assertEqual(kind.table()[0], {"a": 0})
        self.assertEqual(row, {"a": 0})

    def test_tables_told_one_behind_another(self):
        kind = Kind(TWO_ROWS)
        one, other = kind.table(), kind.table()
        self.assertIsNot(one, other)
        self.assertFalse(any(row is also for row in one for also in other))

    def test_asked_again(self):
        kind = Kind(TWO_ROWS)
        for time in range(3):
            self.check_as_made(kind)

    def test_a_told_table_handed_in_again(self):
        for table in (TWO_ROWS, circle(1000)):
            self.assertEqual(Kind(Kind(table).table()).table(), table)


class After(unittest.TestCase):
    def test_no_days(self):
        for table in (TWO_ROWS, [{"a": 0}], [{"a": 1}, {"b": 1}], circle(1000)):
            self.assertEqual(Kind(table).after(""), 0)
            self.assertIs(type(Kind(table).after("")), int)

    def test_each_row(self):
        kind = Kind([{"a": 1, "b": 3}, {"a": 2}, {"c": 0, "a": 2}, {"b": 3, "d": 1}])
        rows = {
            "a": 1, "b": 3, "aa": 2, "aac": 0, "aaa": 2, "aaaac": 0, "aacb": 3, "bb": 3, "bbbbd": 1, "bda": 2, "bdac": 0,
            "c": None, "d": None, "ab": None, "aab": None, "ba": None, "bdb": None, "aad": None, "aacc": None,
        }
        for weather, row in rows.items():
            self.assertEqual(kind.after(weather), row, weather)
            self.assertEqual(kind.after(weather=weather), row, weather)

    def test_beginnings(self):
        kind = Kind([{"a": 1}, {"b": 2}, {"c": 3}, {"d": 4}, {"e": 4}])
        weather = "abcdeee"
        for days in range(8):
            self.assertEqual(kind.after(weather[:days]), min(days, 4))

    def test_a_letter_that_leads_nowhere_at_any_place(self):
        kind = Kind([{"a": 1}, {"b": 0}])
        weather = "abababab"
        for place in range(8):
            for bad in "cz" + ("b" if weather[place] == "a" else "a"):
                self.assertIsNone(kind.after(weather[:place] + bad + weather[place + 1:]))
                self.assertIsNone(kind.after(weather[:place] + bad + weather[place:]))
        self.assertEqual(kind.after(weather), 0)

    def test_signs_that_are_no_small_letters(self):
        kind = Kind([dict.fromkeys(SMALL, 0)])
        for sign in [*SIGNS, *SMALL.upper()]:
            for weather in (sign, "a" + sign, sign + "a", "ab" + sign + "cd"):
                self.assertIsNone(kind.after(weather))

    def test_what_is_no_text(self):
        kind = Kind([{"a": 0, "b": 0}])
        for thing in (
            None, True, False, 0, 1, -1, b"", b"a", [], ["a"], ["a", "b"], (), ("a",), {}, {"a": 0}, {"a"}, kind, object(),
            ["ab"], range(0), [[]], ([],),
        ):
            self.assertIsNone(kind.after(thing))

    def test_long_weathers(self):
        kind = Kind(circle(7, "ab"))
        self.assertEqual(kind.after("ab" * 200), 400 % 7)
        self.assertIsNone(kind.after("ab" * 199 + "ac"))
        self.assertIsNone(kind.after("c" + "ab" * 199))
        far = Kind(circle(1000))
        self.assertEqual([far.after("a" * days) for days in (400, 999, 1000, 5999)], [400, 999, 0, 999])

    def test_against_the_plain_words(self):
        dice = random.Random(5)
        for time in range(60):
            table = some_table(dice, dice.randrange(1, 6), "abc")
            kind = Kind(table)
            told = weathers(table, 5)
            for weather in weathers([{"a": 0, "b": 0, "c": 0}], 5):
                self.assertEqual(kind.after(weather), told.get(weather))

    def test_each_weather_can_go_on(self):
        dice = random.Random(6)
        for time in range(40):
            table = some_table(dice, dice.randrange(1, 6), "abc")
            kind = Kind(table)
            for weather in weathers(table, 3):
                self.assertTrue(any(kind.after(weather + letter) is not None for letter in "abc"))


class Equal(unittest.TestCase):
    def check(self, one, other, equal):
        self.assertIs(one == other, equal)
        self.assertIs(other == one, equal)
        self.assertIs(one != other, not equal)
        self.assertIs(other != one, not equal)

    def test_the_same_table(self):
        for table in (TWO_ROWS, [{"a": 0}], circle(1000), path("abc")):
            kind = Kind(table)
            self.check(kind, kind, True)
            self.check(kind, Kind(table), True)
            self.check(kind, Kind(tuple(table)), True)

    def test_keys_in_another_order(self):
        self.check(Kind([{"a": 0, "b": 1}, {"c": 0, "b": 1}]), Kind([{"b": 1, "a": 0}, {"b": 1, "c": 0}]), True)

    def test_rows_renumbered(self):
        one = Kind([{"a": 1, "b": 2}, {"a": 1, "c": 2}, {"b": 0}])
        self.check(one, Kind([{"a": 2, "b": 1}, {"b": 0}, {"a": 2, "c": 1}]), True)
        self.check(one, Kind([{"a": 2, "b": 1}, {"a": 2, "c": 1}, {"b": 0}]), False)

    def test_rows_doubled(self):
        self.check(Kind([{"a": 0}]), Kind([{"a": 1}, {"a": 0}]), True)
        self.check(Kind([{"a": 0}]), Kind(circle(1000)), True)
        self.check(Kind(circle(6)), Kind(circle(35)), True)
        self.check(Kind(TWO_ROWS), Kind([{"a": 1, "b": 2}, {"b": 2}, {"a": 3, "b": 0}, {"b": 0}]), True)
        self.check(Kind(TWO_ROWS), Kind([{"a": 1, "b": 2}, {"b": 2}, {"a": 3, "b": 0}, {"b": 0, "a": 1}]), False)

    def test_a_row_more_to_which_no_weather_comes(self):
        self.check(Kind(TWO_ROWS), Kind(TWO_ROWS + [{"z": 0}]), True)
        self.check(Kind([{"a": 0}]), Kind([{"a": 0}, {"b": 2, "a": 0}, {"c": 1}]), True)

    def test_parting_on_the_first_day(self):
        self.check(Kind([{"a": 0}]), Kind([{"b": 0}]), False)
        self.check(Kind([{"a": 0}]), Kind([{"a": 0, "b": 0}]), False)
        self.check(Kind([{"a": 1}, {"b": 1}]), Kind([{"a": 1, "c": 1}, {"b": 1}]), False)

    def test_parting_after_many_days(self):
        for days in (1, 2, 50, 400, 999):
            long = Kind([{"a": k + 1} for k in range(days)] + [{"b": days}])
            self.check(Kind([{"a": 0}]), long, False)
            wider = Kind([{"a": k + 1} for k in range(days)] + [{"a": days, "b": days}])
            self.check(Kind([{"a": 0}]), wider, False)
            self.check(long, wider, False)
        self.check(Kind(circle(30)), Kind(circle(30)[:-1] + [{"a": 0, "b": 0}]), False)

    def test_parting_after_more_days_than_rows(self):
        one = Kind(circle(30)[:-1] + [{"a": 0, "b": 0}])
        other = Kind(circle(31)[:-1] + [{"a": 0, "b": 0}])
        self.check(one, other, False)
        self.check(one, Kind(circle(30)[:-1] + [{"b": 0, "a": 0}]), True)

    def test_what_is_no_kind(self):
        kind = Kind([{"a": 0}])
        for thing in (kind.table(), [{"a": 0}], ({"a": 0},), {"a": 0}, "", "a", "kind", None, True, False, 0, 1, object(), Kind):
            self.check(kind, thing, False)
        self.assertIs(kind == unittest.mock.ANY, False)

    def test_within_lists(self):
        self.check([Kind([{"a": 0}])], [Kind([{"a": 1}, {"a": 1}])], True)
        self.check([Kind([{"a": 0}])], [Kind([{"a": 1}, {"b": 1}])], False)
        self.assertIn(Kind([{"a": 0}]), [None, Kind([{"b": 0}]), Kind([{"a": 1}, {"a": 0}])])

    def test_against_the_plain_words(self):
        dice = random.Random(8)
        found = {True: 0, False: 0}
        for time in range(1500):
            one = some_table(dice, dice.randrange(1, 4), "ab")
            other = some_table(dice, dice.randrange(1, 4), "ab")
            # Two tables of three rows that part do so by the day of as many as they have pairs.
            equal = sorted(weathers(one, 9)) == sorted(weathers(other, 9))
            self.check(Kind(one), Kind(other), equal)
            found[equal] += 1
        self.assertGreater(min(found.values()), 50)


if __name__ == "__main__":
    unittest.main()
