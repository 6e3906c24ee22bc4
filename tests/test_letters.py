"""Small letters [8, 11, 18]."""

import string
import unittest

from lightturns.letters import are_unlike_letters, is_letter

NO_TEXTS = (0, 1, True, False, None, b"a", [], ["a"], (), ("a",), {}, {"a": 0}, {"a"}, object())


class Letters(unittest.TestCase):
    def test_a_letter(self):
        for letter in string.ascii_lowercase:
            self.assertIs(is_letter(letter), True)
        for thing in ("", "ab", "aa", "A", "Z", "1", " ", "a ", "\n", "{", "`", *NO_TEXTS):
            self.assertIs(is_letter(thing), False)

    def test_unlike_letters(self):
        for text in ("", "a", "ab", "ba", "zyx", string.ascii_lowercase):
            self.assertIs(are_unlike_letters(text), True)
        for thing in ("aa", "aba", "A", "aB", "a1", " ", "a ", "a\n", "a-b", "abcdefga", *NO_TEXTS):
            self.assertIs(are_unlike_letters(thing), False)


if __name__ == "__main__":
    unittest.main()
