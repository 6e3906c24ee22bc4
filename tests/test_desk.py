"""A desk that is told rows [2, 39]."""

import random
import unittest

from books_of import FAR, RANKS, knowns_of, some_plain
from lightturns.book import Book
from lightturns.booktexts import book_text
from lightturns.desk import Desk
from lightturns.errors import (
    Clash, Early, NoDay, NoKeeper, NoLetter, NoLetters, NoLight, NoName, NoNumber, NoPlace, NoRanks, NoRow, NoService, NoSuch,
    NoWeather, TooMany,
)
from lightturns.lights import Light, Service
from lightturns.makings import never_more, one_in
from lightturns.owed import days_owed
from lightturns.pairs import beyond, both_kinds, either_kind
from lightturns.stores import unfed
from lightturns.turns import keepers_at, turns
from lightturns.watch import safe

NAMES = [one + other for one in "abcdefgh" for other in "abcd"]
# A row of each sort that can be told to the desk below.
ROWS = (
    "book n ann 1 bob 2", "tell b 9 ann 12 rock", "land b 9 rock 12 5", "join b c n", "show b", "where b ann 3", "at b rock 3",
    "turns b ann", "owed b ann 9 2 1", "unfed b rock 2", "kind n more cs s 2", "kind n one cs s 2", "kind n both k l",
    "kind n either k l", "beyond k l", "light n 3 2 7 c s", "safe k 1 rock", "safe k 1 rock reef", "safe k 1 rock reef isle",
)
WITH_KNOWN = ("where b ann 3", "at b rock 3", "turns b ann", "owed b ann 9 2 1", "unfed b rock 2")


def said(*rows):
    """A desk that was told these rows, each answered ok."""
    desk = Desk()
    for row in rows:
        answer = desk.say(row)
        if answer != "ok":
            raise AssertionError(f"{row}: {answer}")
    return desk


def full_desk():
    return said(
        "book b ann 2 bob 1", "tell b 1 ann 3 rock", "tell b 1 bob 5 rock", "land b 2 rock 5 10", "tell b 4 ann 8 -", "book c cat 3",
        "kind k more cs s 1", "kind l one cs c 3", "light rock 3 2 7 c s", "light reef 2 0 9 c -", "light isle 1 0 9 c -",
    )


def shown(desk):
    """Answers by which all that is kept shows, a refusal by its name."""
    told = []
    for row in (
        "show b", "show c", "show n", "show d", "beyond k l", "beyond l k", "beyond k n", "beyond n k", "beyond n l", "safe k 1 rock",
        "safe k 1 reef", "safe k 1 isle", "safe l 1 rock", "safe l 1 reef isle", "safe k 1 n", "safe n 1 rock",
    ):
        try:
            told.append(desk.say(row))
        except (NoSuch, TooMany) as error:
            told.append(repr(error))
    return told


class Rows(unittest.TestCase):
    def check(self, desk, row, answer):
        told = desk.say(row)
        self.assertEqual(told, answer, row)
        self.assertIs(type(told), str)
        self.assertEqual(desk.say(row=row), answer)

    def test_books(self):
        desk = Desk()
        self.check(desk, "book b", "ok")
        self.check(desk, "show b", "-")
        self.check(desk, "book b bob 1 ann 2", "ok")
        self.check(desk, "show b", "keeper ann 2\nkeeper bob 1\n")
        self.check(desk, "tell b 1 ann 3 rock", "ok")
        self.check(desk, "tell b 1 bob 3 -", "ok")
        self.check(desk, "tell b 2 ann 3 ?", "ok")
        self.check(desk, "land b 2 rock 0 0", "ok")
        text = "keeper ann 2\nkeeper bob 1\nland 2 rock 0 0\nmove 1 ann 3 rock\nmove 1 bob 3 -\nmove 2 ann 3 ?\n"
        self.check(desk, "show b", text)

    def test_thirty_keepers(self):
        desk = said("book b " + " ".join(f"{name} {1 + at % 9}" for at, name in enumerate(NAMES[:30])))
        self.assertEqual(desk.say("show b"), "".join(f"keeper {name} {1 + at % 9}\n" for at, name in enumerate(NAMES[:30])))

    def test_join(self):
        desk = said("book b ann 1", "book c bob 2", "tell b 3 ann 3 rock", "land c 1 rock 4 5", "join b c d")
        self.check(desk, "show d", "keeper ann 1\nkeeper bob 2\nland 1 rock 4 5\nmove 3 ann 3 rock\n")
        self.check(desk, "join b b e", "ok")
        self.assertEqual(desk.say("show e"), desk.say("show b"))
        self.check(desk, "join b c b", "ok")
        self.assertEqual(desk.say("show b"), desk.say("show d"))

    def test_a_joined_book_is_one_of_its_own(self):
        desk = said("book b ann 1", "book c bob 2", "join b c d", "join b b e")
        kept = desk.say("show d")
        for row in ("tell b 1 ann 1 rock", "land c 1 rock 1 1", "book b cat 1", "book c", "tell e 1 ann 1 reef"):
            desk.say(row)
        self.assertEqual(desk.say("show d"), kept)
        desk.say("tell d 1 ann 1 isle")
        self.assertEqual([desk.say("show b"), desk.say("show c")], ["keeper cat 1\n", "-"])

    def test_where(self):
        desk = full_desk()
        for row, answer in (
            ("where b ann 0", "-"), ("where b ann 3", "rock"), ("where b ann 7", "rock"), ("where b ann 8", "-"),
            ("where b ann 8 3", "rock"), ("where b ann 8 4", "-"), ("where b ann 3 0", "-"), ("where b ann 3 1", "rock"),
            (f"where b ann {FAR}", "-"), (f"where b bob {FAR} {FAR}", "rock"),
        ):
            self.check(desk, row, answer)

    def test_at(self):
        desk = full_desk()
        for row, answer in (
            ("at b rock 2", "-"), ("at b rock 3", "ann"), ("at b rock 5", "bob ann"), ("at b rock 8", "bob"), ("at b rock 8 3", "bob ann"),
            ("at b - 0", "bob ann"), ("at b - 3", "bob"), ("at b - 8", "ann"), ("at b - 8 3", "-"), ("at b never 3", "-"), ("at b rock 5 0", "-"),
        ):
            self.check(desk, row, answer)

    def test_turns(self):
        desk = full_desk()
        for row, answer in (
            ("turns b ann", "-:0-2 rock:3-7 -:8-"), ("turns b ann 3", "-:0-2 rock:3-"), ("turns b ann 0", "-:0-"), ("turns c cat", "-:0-"),
        ):
            self.check(desk, row, answer)

    def test_owed(self):
        desk = full_desk()
        for row, answer in (
            ("owed b ann 7 2 0", "5-7"), ("owed b ann 9 2 1", "6-7"), ("owed b ann 9 2 1 3", "5-9"), ("owed b ann 20 2 1", "-"),
            ("owed b ann 2 0 0", "-"), ("owed b ann 7 0 0 0", "-"),
        ):
            self.check(desk, row, answer)
        for row in ("tell b 5 ann 12 rock", "tell b 5 ann 15 -"):
            desk.say(row)
        self.check(desk, "owed b ann 14 2 9", "5-7 14-14")

    def test_unfed(self):
        desk = full_desk()
        for row, answer in (
            ("unfed b rock 2", "3 2"), ("unfed b rock 2 0", "-"), ("unfed b rock 3 1", "3 3"), ("unfed b reef 2", "-"), ("unfed c rock 1", "-"),
        ):
            self.check(desk, row, answer)
        desk.say("land b 4 rock 0 20")
        self.check(desk, "unfed b rock 3", "10 3")
        self.check(desk, "unfed b rock 3 3", "3 3")

    def test_kinds(self):
        desk = Desk()
        for row in ("kind k more cs s 1", "kind l more cs s 2", "kind m one csx c 3", "kind n both l m", "kind o either k m", "kind p more cs s 0"):
            self.check(desk, row, "ok")
        for row, answer in (
            ("beyond k l", "-"), ("beyond l k", "ss"), ("beyond k k", "-"), ("beyond m l", "x"), ("beyond l m", "-"), ("beyond n l", "-"),
            ("beyond m o", "-"), ("beyond o k", "x"), ("beyond k p", "s"),
        ):
            self.check(desk, row, answer)

    def test_a_kind_made_of_others_stays(self):
        desk = said("kind k more cs s 1", "kind l one cs c 3", "kind m both k l", "kind n either k l", "kind same both m m", "kind also both n n")
        for row in ("kind k more xy x 1", "kind l more xy x 2", "kind m both k l"):
            desk.say(row)
        self.assertEqual([desk.say(row) for row in ("beyond n also", "beyond also n", "beyond same n")], ["-", "-", "-"])
        self.assertEqual(desk.say("beyond same m"), "c")
        desk.say("kind n either n k")
        self.assertEqual([desk.say("beyond also n"), desk.say("beyond n also")], ["-", "x"])

    def test_lights_and_safe(self):
        desk = full_desk()
        kind, other = never_more("cs", "s", 1), one_in("cs", "c", 3)
        rock, reef, isle = Light("rock", 3, 2, 7, "c", "s"), Light("reef", 2, 0, 9, "c", ""), Light("isle", 1, 0, 9, "c", "")
        for row, service, weather in (
            ("safe k 1 rock", Service([rock], 1), kind), ("safe l 1 rock", Service([rock], 1), other),
            ("safe k 0 rock", Service([rock], 0), kind), ("safe k 9 reef rock", Service([reef, rock], 9), kind),
            ("safe k 1 rock reef isle", Service([rock, reef, isle], 1), kind), ("safe l 2 isle reef", Service([isle, reef], 2), other),
        ):
            told = safe(service, weather)
            self.check(desk, row, f"safe {len(told[1])}" if told[0] == "safe" else " ".join(told))
        self.check(desk, "safe k 1 rock", "safe 2")
        self.check(desk, "safe l 1 rock", "short ss rock keepers")
        self.check(desk, "light rock 1 0 1 c -", "ok")
        self.check(desk, "safe k 1 rock", "short sc rock stores")
        self.check(desk, "light rock 1 0 1 - -", "ok")
        self.check(desk, "safe k 1 rock", "short cc rock stores")

    def test_what_is_made_takes_the_place_of_another_of_its_sort(self):
        desk = full_desk()
        for row in ("book x ann 1", "kind x more cs s 1", "light x 1 0 5 c -"):
            self.check(desk, row, "ok")
        self.assertEqual([desk.say("show x"), desk.say("beyond x k"), desk.say("safe x 1 x")], ["keeper ann 1\n", "-", "safe 2"])
        desk.say("book x")
        self.assertEqual([desk.say("show x"), desk.say("beyond x k"), desk.say("safe x 1 x")], ["-", "-", "safe 2"])
        desk.say("kind x more cs s 2")
        self.assertEqual([desk.say("show x"), desk.say("beyond x k"), desk.say("safe x 1 x")], ["-", "ss", "safe 3"])
        desk.say("light x 1 0 2 c -")
        self.assertEqual([desk.say("show x"), desk.say("beyond x k"), desk.say("safe x 1 x")], ["-", "ss", "short ssc x stores"])

    def test_names_that_are_words_of_rows(self):
        desk = said("book book book 1 tell 2", "kind kind more ab a 1", "kind both more ab a 2", "kind both both both kind", "light safe 1 0 5 b -")
        self.assertEqual(desk.say("tell book 0 tell 0 land"), "ok")
        self.assertEqual([desk.say("where book tell 0"), desk.say("beyond both kind"), desk.say("safe kind 1 safe")], ["land", "-", "safe 2"])

    def test_two_desks(self):
        one, other = Desk(), Desk()
        one.say("book b ann 1")
        with self.assertRaises(NoSuch):
            other.say("show b")
        other.say("book b bob 2")
        one.say("tell b 0 ann 0 rock")
        self.assertEqual([one.say("show b"), other.say("show b")], ["keeper ann 1\nmove 0 ann 0 rock\n", "keeper bob 2\n"])

    def test_each_row_of_the_lot(self):
        for row in ROWS:
            with self.subTest(row):
                self.assertTrue(full_desk().say(row))
        for row in WITH_KNOWN:
            for known in ("0", "3", "9", str(FAR)):
                self.assertTrue(full_desk().say(f"{row} {known}"))

    def test_by_the_functions_themselves(self):
        dice = random.Random(43)
        for number in range(60):
            plain = some_plain(dice)
            book = plain.book()
            desk = said("book b " + " ".join(f"{name} {rank}" for name, rank in RANKS.items()))
            for word, known, who, day, what in plain.told:
                place = "?" if what is None else what or "-"
                desk.say(f"tell b {known} {who} {day} {place}" if word == "move" else f"land b {known} {who} {day} {what}")
            self.assertEqual(desk.say("show b"), book_text(book))
            for known in knowns_of(plain):
                more = "" if known is None else f" {known}"
                for day in range(0, 11, 3):
                    self.assertEqual(desk.say(f"where b ann {day}{more}"), book.where("ann", day, known) or "-")
                    self.assertEqual(desk.say(f"at b rock {day}{more}"), " ".join(keepers_at(book, "rock", day, known)) or "-")
                    owed = days_owed(book, "ann", day, 1, 1, known)
                    self.assertEqual(desk.say(f"owed b ann {day} 1 1{more}"), " ".join(map(str, owed)) or "-")
                told = " ".join(f"{place or '-'}:{stretch}" for place, stretch in turns(book, "ann", known))
                self.assertEqual(desk.say(f"turns b ann{more}"), told)
                lacking = unfed(book, "rock", 2, known)
                self.assertEqual(desk.say(f"unfed b rock 2{more}"), "-" if lacking is None else "{} {}".format(*lacking))

    def test_kinds_by_the_functions_themselves(self):
        desk = said("kind a more csx s 2", "kind b one csx c 4", "kind c both a b", "kind d either a b")
        one, other = never_more("csx", "s", 2), one_in("csx", "c", 4)
        kinds = {"a": one, "b": other, "c": both_kinds(one, other), "d": either_kind(one, other)}
        for name, kind in kinds.items():
            for later, against in kinds.items():
                self.assertEqual(desk.say(f"beyond {name} {later}"), beyond(kind, against) or "-")


class Refused(unittest.TestCase):
    def check(self, error, row, word=None):
        desk = full_desk()
        before = shown(desk)
        for say in (lambda: desk.say(row), lambda: desk.say(row=row)):
            with self.subTest(row), self.assertRaises(error) as caught:
                say()
            if word is not None:
                self.assertEqual(caught.exception.word, word)
        self.assertEqual(shown(desk), before)
        return caught.exception

    def test_no_text(self):
        for bad in (None, True, False, 0, 1, b"show b", [], ["show b"], ["show", "b"], ("show", "b"), {}, set(), object(), str, Book({})):
            self.check(NoRow, bad)

    def test_words_and_blanks(self):
        for row in ("", " ", "  ", "\n", "x", "b", "say", "book", "tell", "show", "kind", "safe", "ok", "-", "?", "BOOK NEW KEEPERS"):
            self.check(NoRow, row)
        for row in ROWS:
            self.check(NoRow, " " + row)
            self.check(NoRow, row + " ")
            self.check(NoRow, row.replace(" ", "  ", 1))
            self.check(NoRow, "  ".join(row.rsplit(" ", 1)))
            self.check(NoRow, row.upper())
            self.check(NoRow, "x" + row)
            self.check(NoRow, row.replace(" ", "\n", 1))
            self.check(NoRow, "\n" + row)

    def test_a_word_more_or_less(self):
        for row in ROWS:
            words = row.split(" ")
            for many in range(1, len(words)):
                less = " ".join(words[:many])
                if less not in ("book n", "book n ann 1", "safe k 1 rock", "safe k 1 rock reef"):
                    self.check(NoRow, less)
            if not row.startswith("safe"):
                self.check(NoRow, row + " x")
                self.check(NoRow, row + " x x")
                self.check(NoRow, row + " 3 x")
            if not row.startswith("safe") and row not in WITH_KNOWN:
                self.check(NoRow, row + " 3")
            if row in WITH_KNOWN:
                self.check(NoRow, row + " 3 4")
        self.check(NoRow, "safe k 1 rock reef isle x")
        self.check(NoRow, "safe k 1 rock reef isle 3 x")
        self.check(NoRow, "kind n")
        self.check(NoRow, "kind n most cs s 2")
        self.check(NoRow, "kind n both k")
        self.check(NoRow, "kind n more k l")
        self.check(NoRow, "kind n both cs s 2")

    def test_numbers(self):
        for row in (
            "book n ann # bob 2", "book n ann 1 bob #", "tell b # ann 12 rock", "tell b 9 ann # rock", "land b # rock 12 5",
            "land b 9 rock # 5", "land b 9 rock 12 #", "where b ann #", "where b ann 3 #", "at b rock #", "at b rock 3 #", "turns b ann #",
            "owed b ann # 2 1", "owed b ann 9 # 1", "owed b ann 9 2 #", "owed b ann 9 2 1 #", "unfed b rock #", "unfed b rock 2 #",
            "kind n more cs s #", "kind n one cs s #", "light n # 2 7 c s", "light n 3 # 7 c s", "light n 3 2 # c s", "safe k # rock",
        ):
            for bad in ("00", "01", "007", "-1", "+1", "-", "?", "x", "1x", "x1", "1.0", "1_0", "1\n", "\n1", "None", "0x1"):
                self.check(NoRow, row.replace("#", bad))
            # A number that isn't written so goes ahead of a book, kind or light that isn't kept.
            words = row.replace("#", "01").split(" ")
            self.check(NoRow, " ".join([words[0], "none", *words[2:]]))

    def test_names_by_which_something_is_made(self):
        for bad in ("N", "abcdefghi", "n1", "-", "?", "n\n", "\n", "1"):
            for row in (
                "book #", "book # ann 1", "join b c #", "kind # more cs s 2", "kind # one cs s 2", "kind # both k l", "kind # either k l",
                "light # 3 2 7 c s",
            ):
                self.check(NoRow, row.replace("#", bad))
        self.check(NoRow, "join x y Z")
        self.check(NoRow, "kind N both x y")
        self.check(NoRow, "book N Ann 0")
        self.check(NoRow, "light N 0 9 99 cc ss")

    def test_named_twice(self):
        for row in (
            "book n ann 1 ann 1", "book n ann 1 ann 2", "book n ann 1 bob 1 ann 1", "book n Ann 1 Ann 1", "book n ann 1 ann 0",
            "safe k 1 rock rock", "safe k 1 rock reef rock", "safe k 1 x x", "safe x 1 y y", "safe k 10 rock rock", "safe k 1 reef rock rock",
        ):
            self.check(NoRow, row)

    def test_no_such(self):
        for row in (
            "tell # 9 ann 12 rock", "land # 9 rock 12 5", "join # c n", "join b # n", "show #", "where # ann 3", "where # ann 3 3",
            "at # rock 3", "turns # ann", "owed # ann 9 2 1", "unfed # rock 2", "kind n both # l", "kind n both k #", "kind n either # l",
            "kind n either k #", "beyond # l", "beyond k #", "safe # 1 rock", "safe k 1 #", "safe k 1 # reef", "safe k 1 rock reef #",
        ):
            for bad in ("none", "n", "B", "abcdefghi", "-", "?", "b\n", "\n", "1"):
                self.check(NoSuch, row.replace("#", bad), bad)

    def test_no_such_of_another_sort(self):
        for row, word in (
            ("show k", "k"), ("show rock", "rock"), ("beyond b k", "b"), ("beyond k rock", "rock"), ("safe k 1 k", "k"), ("safe b 1 rock", "b"),
            ("safe rock 1 rock", "rock"), ("join b k n", "k"), ("kind n both k b", "b"),
        ):
            self.check(NoSuch, row, word)

    def test_no_such_names_the_first_word(self):
        for row, word in (
            ("join x y n", "x"), ("join b y n", "y"), ("kind n both x y", "x"), ("kind n either k y", "y"), ("beyond x y", "x"),
            ("safe x 1 y z", "x"), ("safe k 1 y z", "y"), ("safe k 1 rock z w", "z"), ("safe k 99 z rock", "z"),
        ):
            self.check(NoSuch, row, word)

    def test_no_such_goes_ahead_of_what_the_stages_refuse(self):
        for row in (
            "tell x 0 Ann 0 Rock", "land x 0 Rock 0 0", "where x Ann 0", "at x ? 0", "turns x Ann", "owed x Ann 0 0 0", "unfed x Rock 0",
            "safe x 10 rock",
        ):
            self.check(NoSuch, row, "x")
        self.check(NoSuch, "safe k 10 x", "x")

    def test_as_the_stages_refuse(self):
        for error, *rows in (
            (NoRanks, "book n Ann 1", "book n abcdefghi 1", "book n ann 0", "book n ann 10", "book n ann\n 1", "book n - 1",
             "book n " + " ".join(f"{name} 1" for name in NAMES[:31])),
            (NoKeeper, "tell b 9 cat 12 rock", "tell b 9 Ann 12 Rock", "tell b 9 ann\n 12 rock", "where b cat 3", "where b - 3", "turns b cat",
             "owed b cat 9 2 1", "tell b 0 cat 12 rock"),
            (NoPlace, "tell b 9 ann 12 Rock", "tell b 9 ann 12 --", "tell b 0 ann 12 Rock", "at b ? 3", "at b Rock 3", "at b rock\n 3"),
            (NoName, "land b 9 Rock 12 5", "land b 9 - 12 5", "unfed b Rock 2", "unfed b - 0", "unfed b ? 2"),
            (NoNumber, "unfed b rock 0", "unfed b rock 0 3", "kind n more cs s 61", "kind n one cs s 0", "kind n one cs s 61"),
            (NoLetters, "kind n more c c 2", "kind n more cc c 2", "kind n more - c 2", "kind n one CS C 99", "kind n one abcdefg a 2"),
            (NoLetter, "kind n more cs x 2", "kind n more cs - 99", "kind n one cs cs 2"),
            (NoLight, "light n 0 0 7 c s", "light n 10 2 7 c s", "light n 3 4 7 c s", "light n 3 2 0 c s", "light n 3 2 31 c s",
             "light n 3 2 7 cc s", "light n 3 2 7 c C", "light n 3 2 7 c- -", "light n 3 2 7 -- s"),
            (NoService, "safe k 10 rock", "safe k 99 rock reef isle"),
        ):
            for row in rows:
                self.check(error, row)

    def test_fields_of_what_the_stages_refuse(self):
        self.assertEqual(self.check(Early, "tell b 3 ann 12 rock").latest, 4)
        self.assertEqual(self.check(Early, "land b 0 rock 12 5").latest, 4)
        self.assertEqual(self.check(NoLight, "light n 3 2 0 c s").field, "stock")
        self.assertEqual(self.check(NoLight, "light n 3 2 7 c ss").field, "sicks")
        self.assertEqual(self.check(NoService, "safe k 10 rock").field, "seats")

    def test_books_that_clash(self):
        desk = full_desk()
        for row in ("book d ann 1 bob 1", "land d 2 rock 5 11"):
            desk.say(row)
        for row in ("join b d n", "join d b n", "join b d b"):
            with self.assertRaises(Clash) as caught:
                desk.say(row)
            self.assertEqual(caught.exception.clashes, [("keeper", "ann"), ("land", 2, "rock", 5)])
        with self.assertRaises(NoSuch):
            desk.say("show n")
        self.assertEqual(shown(desk)[:1], shown(full_desk())[:1])

    def test_too_many(self):
        desk = said(*[f"book {book} " + " ".join(f"{name} 1" for name in names) for book, names in (("b", NAMES[:16]), ("c", NAMES[16:]))])
        with self.assertRaises(TooMany):
            desk.say("join b c d")
        desk = said("kind k one abc a 60", "kind l one abc b 60")
        for row in ("kind o both k l", "kind o either k l"):
            with self.assertRaises(TooMany):
                desk.say(row)
        with self.assertRaises(NoSuch):
            desk.say("beyond o k")

    def test_no_weather(self):
        desk = said("kind k more ab a 0", "kind l one ab a 2")
        with self.assertRaises(NoWeather):
            desk.say("kind k both k l")
        self.assertEqual([desk.say("beyond k l"), desk.say("beyond l k")], ["bb", "a"])

    def test_a_day_is_a_number_so_none_is_refused_as_no_day(self):
        # What is no day isn't written as a number, and so is no row.
        for row in ("where b ann -1", "where b ann x", "turns b ann ?"):
            with self.assertRaises(NoRow) as caught:
                full_desk().say(row)
            self.assertNotIsInstance(caught.exception, NoDay)


if __name__ == "__main__":
    unittest.main()
