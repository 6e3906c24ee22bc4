"""Never more, one in [2, 11]."""

import itertools
import unittest

from lightturns.errors import NoLetter, NoLetters, NoNumber
from lightturns.kinds import Kind
from lightturns.makings import never_more, one_in
from lightturns.pairs import beyond

MAKINGS = (never_more, one_in)
NO_LETTERS = (
    "", "a", "z", "abcdefg", "abcdefgh", "aa", "aab", "aba", "abb", "abcdea", "A", "AB", "Ab", "aB", "a1", "12", "a b",
    "a ", " ab", "ab ", "ab\n", "a\nb", "a-", "a.b", None, True, False, 0, 2, b"ab", [], ["a", "b"], ("a", "b"), (), {},
    {"a": 0, "b": 1}, {"a", "b"}, Kind([{"a": 0}]), object(), "abcdefghijklmnopqrstuvwxyz", "ab" * 3000,
)
NO_LETTER = (
    "", "c", "z", "A", "B", "1", " ", "\n", "ab", "ba", "aa", "a ", " a", "a\n", None, True, False, 0, 1, b"a", [], ["a"],
    ("a",), {}, {"a": 0}, {"a"}, object(),
)
NO_NUMBER = (-1, -2, -10**59, 61, 62, 10**59, True, False, None, "", "1", "a", b"1", [], [1], (1,), {}, {1}, object())


def texts(letters, most):
    for days in range(most + 1):
        for text in itertools.product(letters, repeat=days):
            yield "".join(text)


def on_end(text, letters):
    """On how many days on end, up to the last one, one of the letters stands."""
    return len(text) - len(text.rstrip(letters))


class NeverMore(unittest.TestCase):
    def check(self, letters, letter, many, table):
        for kind in (
            never_more(letters, letter, many), never_more(letters=letters, letter=letter, many=many),
            never_more(many=many, letter=letter, letters=letters),
        ):
            self.assertIs(type(kind), Kind)
            self.assertEqual(kind.table(), table)
            self.assertEqual(len(kind), many + 1)

    def test_its_rows_by_number(self):
        self.check("ab", "a", 2, [{"a": 1, "b": 0}, {"a": 2, "b": 0}, {"b": 0}])
        self.check("ab", "b", 1, [{"b": 1, "a": 0}, {"a": 0}])
        self.check("cab", "a", 1, [{"a": 1, "b": 0, "c": 0}, {"b": 0, "c": 0}])
        self.check("zyxwvu", "x", 1, [{"x": 1, **dict.fromkeys("uvwyz", 0)}, dict.fromkeys("uvwyz", 0)])

    def test_so_many_0(self):
        self.check("ab", "a", 0, [{"b": 0}])
        self.check("abc", "b", 0, [{"a": 0, "c": 0}])

    def test_so_many_60(self):
        self.check("ab", "a", 60, [{"a": k + 1, "b": 0} for k in range(60)] + [{"b": 0}])
        kind = never_more("ab", "a", 60)
        self.assertEqual([kind.after("b" + "a" * days) for days in (0, 1, 59, 60, 61)], [0, 1, 59, 60, None])

    def test_each_number(self):
        for many in range(61):
            self.check("xq", "q", many, [{"q": k + 1, "x": 0} for k in range(many)] + [{"x": 0}])

    def test_of_it_just_where_the_letter_is_never_more_on_end(self):
        for letters, letter, most in (("ab", "a", 8), ("abc", "b", 5), ("abcdef", "f", 3)):
            for many in range(5):
                kind = never_more(letters, letter, many)
                for text in texts(letters, most):
                    told = None if letter * (many + 1) in text else on_end(text, letter)
                    self.assertEqual(kind.after(text), told)

    def test_of_other_letters(self):
        kind = never_more("ab", "a", 3)
        for text in ("c", "ac", "A", "a b", "bbc"):
            self.assertIsNone(kind.after(text))


class OneIn(unittest.TestCase):
    def check(self, letters, letter, many, table):
        for kind in (
            one_in(letters, letter, many), one_in(letters=letters, letter=letter, many=many),
            one_in(many=many, letter=letter, letters=letters),
        ):
            self.assertIs(type(kind), Kind)
            self.assertEqual(kind.table(), table)
            self.assertEqual(len(kind), many)

    def test_its_rows_by_number(self):
        self.check("ab", "a", 3, [{"a": 0, "b": 1}, {"a": 0, "b": 2}, {"a": 0}])
        self.check("ab", "b", 2, [{"b": 0, "a": 1}, {"b": 0}])
        self.check("cab", "a", 2, [{"a": 0, "b": 1, "c": 1}, {"a": 0}])
        self.check("zyxwvu", "x", 2, [{"x": 0, **dict.fromkeys("uvwyz", 1)}, {"x": 0}])

    def test_so_many_1(self):
        self.check("ab", "a", 1, [{"a": 0}])
        self.check("abc", "b", 1, [{"b": 0}])

    def test_so_many_60(self):
        self.check("ab", "a", 60, [{"b": k + 1, "a": 0} for k in range(59)] + [{"a": 0}])
        kind = one_in("ab", "a", 60)
        self.assertEqual([kind.after("a" + "b" * days) for days in (0, 1, 58, 59, 60)], [0, 1, 58, 59, None])

    def test_each_number(self):
        for many in range(1, 61):
            self.check("xq", "q", many, [{"x": k + 1, "q": 0} for k in range(many - 1)] + [{"q": 0}])

    def test_of_it_just_where_each_so_many_days_on_end_have_one(self):
        for letters, letter, most in (("ab", "a", 8), ("abc", "b", 5), ("abcdef", "f", 3)):
            others = letters.replace(letter, "")
            for many in range(1, 6):
                kind = one_in(letters, letter, many)
                for text in texts(letters, most):
                    runs = [text[at:at + many] for at in range(len(text) - many + 1)]
                    told = on_end(text, others) if all(letter in run for run in runs) else None
                    self.assertEqual(kind.after(text), told)

    def test_of_other_letters(self):
        kind = one_in("ab", "a", 3)
        for text in ("c", "ac", "A", "a b", "abc"):
            self.assertIsNone(kind.after(text))


class OfTwoLetters(unittest.TestCase):
    def test_the_one_letter_never_more_is_the_other_one_in_one_more(self):
        for many in range(60):
            self.assertIs(never_more("ab", "a", many) == one_in("ab", "b", many + 1), True)
            self.assertIs(never_more("ab", "a", many) == one_in("ba", "b", many + 1), True)
            self.assertIs(never_more("ab", "a", many) == one_in("ab", "a", many + 1), False)

    def test_more_take_in_fewer(self):
        for make in MAKINGS:
            for many in range(1, 60):
                self.assertIsNone(beyond(make("abc", "b", many), make("abc", "b", many + 1)))
                self.assertIsNotNone(beyond(make("abc", "b", many + 1), make("abc", "b", many)))


class Refused(unittest.TestCase):
    def check(self, error, letters, letter, many):
        for make in MAKINGS:
            with self.subTest(make.__name__, letters=letters, letter=letter, many=many):
                with self.assertRaises(error):
                    make(letters, letter, many)
                with self.assertRaises(error):
                    make(many=many, letter=letter, letters=letters)

    def test_what_is_no_letters(self):
        for bad in NO_LETTERS:
            self.check(NoLetters, bad, "a", 3)

    def test_what_is_no_letter(self):
        for bad in NO_LETTER:
            self.check(NoLetter, "ab", bad, 3)
        for letter in "acgxyz":
            self.check(NoLetter, "bdef", letter, 3)
        self.check(NoLetter, "abcdef", "abcdef", 3)

    def test_what_is_no_number(self):
        for bad in NO_NUMBER:
            self.check(NoNumber, "ab", "a", bad)

    def test_0_is_one_for_never_more_alone(self):
        self.assertEqual(len(never_more("ab", "a", 0)), 1)
        with self.assertRaises(NoNumber):
            one_in("ab", "a", 0)
        with self.assertRaises(NoNumber):
            one_in("ab", "a", many=0)

    def test_of_several_the_first_goes_first(self):
        for letters in NO_LETTERS:
            for letter in (None, "c", "", 0, ["a"]):
                for many in (-1, 61, True, None, 3):
                    self.check(NoLetters, letters, letter, many)
            self.check(NoLetters, letters, "a", -1)
        for letter in NO_LETTER:
            for many in NO_NUMBER:
                self.check(NoLetter, "ab", letter, many)

    def test_two_to_six_letters(self):
        for many in range(2, 7):
            for make in MAKINGS:
                self.assertEqual(len(make("abcdef"[:many], "b", 4).table()[0]), many)

    def test_asked_again(self):
        for make in MAKINGS:
            one, other = make("ab", "a", 4), make("ab", "a", 4)
            self.assertEqual(one.table(), other.table())
            one.table()[0].clear()
            self.assertEqual(one.table(), other.table())


if __name__ == "__main__":
    unittest.main()
