"""Names [5]."""

import unittest

from lightturns.names import is_name

LETTERS = "abcdefghijklmnopqrstuvwxyz"
SIGNS = [chr(code) for code in range(32, 127) if chr(code) not in LETTERS]


class Names(unittest.TestCase):
    def test_one_letter(self):
        for letter in LETTERS:
            self.assertIs(is_name(letter), True)

    def test_one_to_eight_letters(self):
        for many in range(1, 9):
            self.assertIs(is_name("z" * many), True)
        for name in ("ann", "skerry", "abcdefgh", "stuvwxyz", "aaaaaaaa"):
            self.assertIs(is_name(name), True)

    def test_by_name(self):
        self.assertIs(is_name(thing="ann"), True)
        self.assertIs(is_name(thing="Ann"), False)

    def test_nothing_and_too_many(self):
        for text in ("", "abcdefghi", "a" * 9, "a" * 10, "a" * 6000):
            self.assertIs(is_name(text), False)

    def test_other_signs_at_any_place(self):
        for sign in [*SIGNS, "\n"]:
            for text in (sign, sign + "bc", "a" + sign + "c", "ab" + sign, "abcdefg" + sign, sign + "abcdefg"):
                with self.subTest(text):
                    self.assertIs(is_name(text), False)

    def test_nine_with_a_line_feed(self):
        self.assertIs(is_name("abcdefgh\n"), False)

    def test_what_is_no_text(self):
        things = (0, 1, -1, 10**59, True, False, None, b"ann", [], ["a"], ["ann"], (), ("a",), {}, {"a": "b"}, {"a"})
        for thing in things:
            with self.subTest(thing):
                self.assertIs(is_name(thing), False)

    def test_asked_again(self):
        for told in (True, True):
            self.assertIs(is_name("ann"), told)
        for told in (False, False):
            self.assertIs(is_name("ann "), told)


if __name__ == "__main__":
    unittest.main()
