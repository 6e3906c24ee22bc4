"""A book's text, and a book read from one [2, 38]."""

import random
import re
import unittest

from books_of import FAR, RANKS, some_plain, state, told_book
from lightturns.book import Book
from lightturns.booktexts import book_text, read_book
from lightturns.errors import NoText

TEXT = (
    "keeper ann 2\nkeeper bob 1\n"
    "land 1 rock 9 40\nland 1 rock 10 0\nland 12 reef 0 7\n"
    "move 0 bob 3 -\nmove 1 ann 2 rock\nmove 1 bob 3 ?\nmove 12 ann 2 reef\n"
)
NAME = "[a-z]{1,8}"
NUMBER = "(?:0|[1-9][0-9]*)"
LINE = re.compile(f"keeper {NAME} [1-9]|land {NUMBER} {NAME} {NUMBER} {NUMBER}|move {NUMBER} {NAME} {NUMBER} (?:{NAME}|-|[?])")


def is_text(text):
    """Is it a book's text, by the words of [38] line by line?"""
    if text and not text.endswith("\n"):
        return False
    lines = text.split("\n")[:-1]
    if not all(LINE.fullmatch(line) for line in lines):
        return False
    keys = []
    for line in lines:
        word, *rest = line.split(" ")
        keys.append((word, rest[0]) if word == "keeper" else (word, int(rest[0]), rest[1], int(rest[2])))
    keepers = {key[1] for key in keys if key[0] == "keeper"}
    moved = {key[2] for key in keys if key[0] == "move"}
    return keys == sorted(keys) and len(set(keys)) == len(keys) and moved <= keepers and len(keepers) <= 30


class Text(unittest.TestCase):
    def test_line_by_line(self):
        book = told_book(
            {"bob": 1, "ann": 2}, (0, "bob", 3, ""), (1, "rock", 10, 0), (1, "rock", 9, 40), (1, "bob", 3, None), (1, "ann", 2, "rock"),
            (12, "ann", 2, "reef"), (12, "reef", 0, 7),
        )
        self.assertEqual(book_text(book), TEXT)
        self.assertEqual(book_text(book=book), TEXT)

    def test_of_a_book_without_keepers(self):
        self.assertEqual(book_text(Book({})), "")
        self.assertEqual(book_text(told_book({}, (3, "rock", 4, 5))), "land 3 rock 4 5\n")

    def test_keepers_by_name(self):
        self.assertEqual(book_text(Book({"cat": 9, "b": 1, "ann": 5, "bob": 5})), "keeper ann 5\nkeeper b 1\nkeeper bob 5\nkeeper cat 9\n")

    def test_far(self):
        book = told_book({"ann": 1}, (FAR, "ann", FAR + 1, "rock"), (FAR, "rock", FAR, FAR))
        self.assertEqual(book_text(book), f"keeper ann 1\nland {FAR} rock {FAR} {FAR}\nmove {FAR} ann {FAR + 1} rock\n")

    def test_the_book_as_it_is_then(self):
        book = told_book({"ann": 1}, (1, "ann", 2, "rock"))
        before = state(book)
        self.assertEqual([book_text(book), book_text(book)], ["keeper ann 1\nmove 1 ann 2 rock\n"] * 2)
        self.assertEqual(state(book), before)
        book.tell(1, "ann", 2, None)
        self.assertEqual(book_text(book), "keeper ann 1\nmove 1 ann 2 ?\n")


class Read(unittest.TestCase):
    def test_there_and_back(self):
        for text in (
            TEXT, "", "keeper ann 1\n", "keeper ann 9\nkeeper b 1\n", "land 3 rock 4 5\n", "land 0 rock 0 0\n",
            "keeper ann 1\nmove 0 ann 0 abcdefgh\n", "keeper ann 1\nland 9 ann 0 0\nmove 1 ann 0 ann\n",
            f"keeper ann 1\nland {FAR} rock {FAR} {FAR}\nmove {FAR} ann {FAR + 1} rock\n",
        ):
            for book in (read_book(text), read_book(text=text)):
                self.assertIs(type(book), Book)
                self.assertEqual(book_text(book), text)

    def test_what_is_read(self):
        self.assertEqual(state(read_book(TEXT)), ({"ann": 2, "bob": 1}, [
            ("land", 1, "rock", 9, 40), ("land", 1, "rock", 10, 0), ("land", 12, "reef", 0, 7), ("move", 0, "bob", 3, ""),
            ("move", 1, "ann", 2, "rock"), ("move", 1, "bob", 3, None), ("move", 12, "ann", 2, "reef"),
        ], 12, 7))
        self.assertEqual(state(read_book("")), ({}, [], None, 0))

    def test_each_time_a_book_of_its_own(self):
        one, other = read_book(TEXT), read_book(TEXT)
        one.tell(12, "ann", 2, None)
        self.assertEqual(book_text(other), TEXT)

    def test_books_by_dice(self):
        dice = random.Random(41)
        for number in range(150):
            book = some_plain(dice).book()
            text = book_text(book)
            self.assertTrue(is_text(text))
            self.assertEqual(read_book(text), book)
            self.assertEqual(state(read_book(text)), state(book))

    def test_two_hundred_entries(self):
        book = Book(RANKS)
        for number in range(100):
            book.tell(number, "ann", 1000 - number, "rock")
            book.land(number, "rock", number, number)
        self.assertEqual(read_book(book_text(book)), book)


class NoTexts(unittest.TestCase):
    def check(self, text):
        for read in (lambda: read_book(text), lambda: read_book(text=text)):
            with self.subTest(text), self.assertRaises(NoText):
                read()

    def test_what_is_no_text(self):
        for bad in (None, True, False, 0, 1, b"", b"keeper ann 1\n", [], ["keeper ann 1\n"], (), {}, set(), object(), str, Book({})):
            self.check(bad)

    def test_lines_turned_about_twice_or_left_out(self):
        lines = TEXT.splitlines(keepends=True)
        for at in range(len(lines) - 1):
            self.check("".join(lines[:at] + [lines[at + 1], lines[at]] + lines[at + 2:]))
        for at in range(len(lines)):
            self.check("".join(lines[:at + 1] + lines[at:]))
            self.check("".join(lines[:at] + ["\n"] + lines[at:]))
        # Without their lines, keepers who move aren't there.
        self.check("".join(lines[1:]))
        self.check("".join(lines[:1] + lines[2:]))

    def test_of_each_line(self):
        for line in TEXT.splitlines():
            head = "keeper ann 2\nkeeper bob 1\n" if line.startswith("move") else ""
            self.assertEqual(book_text(read_book(head + line + "\n")), head + line + "\n")
            words = line.split(" ")
            for bad in (
                line, " " + line + "\n", line + " \n", line + " x\n", line + " 1\n", line + "\n\n", "\n" + line + "\n", line + "\n ",
                line.replace(" ", "  ", 1) + "\n", "  ".join(words) + "\n", line.upper() + "\n", line + "\r\n", line.replace(" ", "\n", 1) + "\n",
                line.replace(" ", "\t", 1) + "\n", words[0] + "\n", " ".join(words[:-1]) + "\n", " ".join(words[:-1]) + " \n",
                "x" + line + "\n", " ".join(["lend", *words[1:]]) + "\n", " ".join(["", *words[1:]]) + "\n",
            ):
                self.check(head + bad)
            for at, word in enumerate(words):
                if word.isdigit():
                    for bad in ("0" + word, "-" + word, "+" + word, word + ".0", word + "_0", "", "x", "-", "?", "1e1"):
                        self.check(head + " ".join([*words[:at], bad, *words[at + 1:]]) + "\n")

    def test_ranks(self):
        for rank in ("0", "10", "11", "00", "01", "-1", "a", "?", "-", str(FAR)):
            self.check(f"keeper ann {rank}\n")
            self.check(f"keeper ann {rank}\nkeeper bob 1\n")

    def test_keepers(self):
        for name in ("Ann", "abcdefghi", "ann1", "-", "?", "", "a-b"):
            self.check(f"keeper {name} 1\n")
        self.check("keeper ann 1\nkeeper ann 1\n")
        self.check("keeper ann 1\nkeeper ann 2\n")
        self.check("keeper bob 1\nkeeper ann 1\n")
        self.check("move 1 ann 2 rock\n")
        self.check("keeper bob 1\nmove 1 ann 2 rock\n")
        self.check("keeper ann 1\nmove 1 Ann 2 rock\n")
        self.check("move 1 ann 2 rock\nkeeper ann 1\n")
        self.check("land 1 ann 2 3\nkeeper ann 1\n")
        thirty = [f"keeper {one}{other} 1\n" for one in "abcdef" for other in "abcde"]
        self.assertEqual(len(read_book("".join(thirty)).ranks()), 30)
        self.check("".join(thirty) + "keeper zz 1\n")

    def test_places_and_lights(self):
        for place in ("Rock", "abcdefghi", "rock1", "", "--", "-?", "??", "0", "None"):
            self.check(f"keeper ann 1\nmove 1 ann 2 {place}\n")
        for light in ("Rock", "abcdefghi", "rock1", "", "-", "?", "0"):
            self.check(f"land 1 {light} 2 3\n")
        for weight in ("-", "?", "rock", ""):
            self.check(f"land 1 rock 2 {weight}\n")

    def test_entries_twice_or_not_in_order(self):
        for entries in (
            ["land 1 rock 2 3", "land 1 rock 2 3"], ["land 1 rock 2 3", "land 1 rock 2 4"], ["land 2 rock 2 3", "land 1 rock 2 3"],
            ["land 10 rock 2 3", "land 9 rock 2 3"], ["land 1 rock 10 3", "land 1 rock 9 3"], ["land 1 rock 2 3", "land 1 reef 2 3"],
            ["move 1 ann 2 rock", "move 1 ann 2 rock"], ["move 1 ann 2 rock", "move 1 ann 2 ?"], ["move 2 ann 2 -", "move 1 ann 2 -"],
            ["move 1 ann 2 rock", "land 1 rock 2 3"], ["move 1 ann 10 rock", "move 1 ann 9 rock"],
        ):
            self.check("keeper ann 1\n" + "".join(line + "\n" for line in entries))

    def test_a_sign_more_less_or_another(self):
        dice = random.Random(42)
        read, refused = 0, 0
        for number in range(4000):
            at, sign = dice.randrange(len(TEXT) + 1), dice.choice("annbobrockreef0019 -?\n")
            text = dice.choice([TEXT[:at] + sign + TEXT[at:], TEXT[:at] + TEXT[at + 1:], TEXT[:at] + sign + TEXT[at + 1:]])
            if is_text(text):
                self.assertEqual(book_text(read_book(text)), text)
                read += 1
            else:
                self.check(text)
                refused += 1
        self.assertGreater(min(read, refused), 200)


if __name__ == "__main__":
    unittest.main()
