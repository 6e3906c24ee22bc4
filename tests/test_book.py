"""A book of who is where [2, 4, 24, 25, 26, 27]."""

import random
import unittest
import unittest.mock

from books_of import (
    FAR, NO_DAYS, NO_KNOWNS, NO_NAMES, NO_PLACES, NO_WHOLES, RANKS, knowns_of, some_plain, state, told_book,
)
from lightturns.book import Book
from lightturns.errors import Early, NoDay, NoKeeper, NoName, NoNumber, NoPlace, NoRanks

LETTERS = "abcdefghijklmnopqrstuvwxyz"
THIRTY = {letter: 1 + at % 9 for at, letter in enumerate(LETTERS)} | {"aa": 1, "bb": 9, "cc": 5, "abcdefgh": 4}
NO_KEEPERS = (*NO_NAMES, "dan", "rock")


class Made(unittest.TestCase):
    def test_of_none_and_of_thirty(self):
        self.assertEqual(len(THIRTY), 30)
        for ranks in ({}, {"ann": 1}, {"ann": 9, "bob": 1}, RANKS, THIRTY):
            for book in (Book(ranks), Book(ranks=ranks)):
                self.assertEqual(state(book), (ranks, [], None, 0))
                self.assertIs(type(book.ranks()), dict)

    def test_each_rank(self):
        for rank in range(1, 10):
            self.assertEqual(Book({"ann": rank}).ranks(), {"ann": rank})

    def test_what_is_no_dict(self):
        for bad in (
            None, True, False, 0, 1, "", "ann", b"", [], [("ann", 1)], (), (("ann", 1),), set(), {"ann"}, object(), dict, Book({}),
        ):
            with self.subTest(bad):
                self.check(bad)

    def check(self, bad):
        for make in (lambda: Book(bad), lambda: Book(ranks=bad)):
            with self.assertRaises(NoRanks):
                make()

    def test_more_than_thirty(self):
        self.check(THIRTY | {"zz": 1})
        self.check(THIRTY | {"zz": 1, "zzz": 2})

    def test_a_key_that_is_no_name(self):
        for bad in ("", "Ann", "a b", "abcdefghi", "ann1", "ann\n", "-", None, True, 0, 1, b"ann", (), ("ann",), object()):
            with self.subTest(bad):
                self.check({bad: 1})
                self.check({"ann": 1, bad: 1})
                self.check({bad: 1, "ann": 1})

    def test_a_rank_that_is_none(self):
        for bad in (0, 10, 11, -1, FAR, -FAR, *NO_WHOLES):
            with self.subTest(bad):
                self.check({"ann": bad})
                self.check({"ann": 1, "bob": bad})
                self.check({"ann": bad, "bob": 1})

    def test_ranks_are_the_askers_own(self):
        book = Book(RANKS)
        told, kept = book.ranks(), book.ranks()
        told["dan"] = 1
        del told["ann"]
        self.assertEqual((book.ranks(), kept), (RANKS, RANKS))
        with self.assertRaises(NoKeeper):
            book.where("dan", 0)

    def test_what_was_handed_in_may_be_changed(self):
        handed = dict(RANKS)
        book = Book(handed)
        self.assertEqual(handed, RANKS)
        handed["ann"] = 9
        del handed["bob"]
        handed["dan"] = 1
        self.assertEqual(book.ranks(), RANKS)
        self.assertEqual(book.where("bob", 3), "")
        with self.assertRaises(NoKeeper):
            book.tell(0, "dan", 0, "rock")


class Told(unittest.TestCase):
    def setUp(self):
        self.book = told_book(RANKS, (3, "ann", 5, "rock"), (4, "rock", 6, 70), (5, "ann", 8, ""))

    def test_told_none(self):
        book = Book(RANKS)
        self.assertIsNone(book.last_known())
        self.assertIsNone(book.tell(3, "ann", 5, "rock"))
        self.assertIsNone(book.land(4, "rock", 6, 70))
        self.assertIsNone(book.tell(5, "ann", 8, ""))
        self.assertIsNone(book.tell(5, "bob", 0, None))
        self.assertIsNone(book.land(5, "reef", 0, 0))
        self.assertEqual(book.entries(), [
            ("land", 4, "rock", 6, 70), ("land", 5, "reef", 0, 0), ("move", 3, "ann", 5, "rock"), ("move", 5, "ann", 8, ""),
            ("move", 5, "bob", 0, None),
        ])

    def test_by_name(self):
        book = Book(ranks=RANKS)
        book.tell(place="rock", day=5, keeper="ann", known=3)
        book.land(weight=70, day=6, light="rock", known=4)
        book.tell(5, "ann", place="", day=8)
        self.assertEqual(book, self.book)
        self.assertEqual(book.where(day=5, keeper="ann", known=4), "rock")
        self.assertEqual(book.where(keeper="ann", day=5), "rock")
        self.assertEqual(book.landed(day=6, light="rock", known=4), 70)
        self.assertEqual(book.landed(light="rock", day=6), 70)

    def test_the_last_known_day(self):
        book = Book(RANKS)
        for known, tell in (
            (0, lambda: book.tell(0, "ann", 9, "rock")), (0, lambda: book.land(0, "rock", 9, 1)),
            (2, lambda: book.land(2, "rock", 1, 1)), (2, lambda: book.tell(2, "bob", 0, "")),
            (7, lambda: book.tell(7, "bob", 0, None)), (FAR, lambda: book.land(FAR, "reef", 0, 0)),
        ):
            tell()
            self.assertEqual(book.last_known(), known)

    def refused(self, error, call, *handed, **named):
        book, before = self.book, state(self.book)
        wheres = [book.where(keeper, day, known) for keeper in RANKS for day in range(12) for known in (None, *range(9))]
        landed = [book.landed(light, day, known) for light in ("rock", "reef") for day in range(12) for known in (None, 4, 9)]
        with self.assertRaises(error) as caught:
            call(*handed, **named)
        self.assertEqual(state(book), before)
        self.assertEqual(
            [book.where(keeper, day, known) for keeper in RANKS for day in range(12) for known in (None, *range(9))], wheres)
        self.assertEqual(
            [book.landed(light, day, known) for light in ("rock", "reef") for day in range(12) for known in (None, 4, 9)], landed)
        return caught.exception

    def test_a_move_that_is_refused(self):
        goods = {"known": 5, "keeper": "ann", "day": 8, "place": "rock"}
        bads = (
            ("known", NoDay, NO_DAYS), ("day", NoDay, NO_DAYS), ("keeper", NoKeeper, NO_KEEPERS),
            ("place", NoPlace, tuple(bad for bad in NO_PLACES if bad is not None)), ("known", Early, (4, 0)),
        )
        self.check_order(self.book.tell, goods, bads)

    def test_a_landing_that_is_refused(self):
        goods = {"known": 5, "light": "rock", "day": 6, "weight": 8}
        bads = (
            ("known", NoDay, NO_DAYS), ("day", NoDay, NO_DAYS), ("light", NoName, NO_NAMES),
            ("weight", NoNumber, NO_DAYS), ("known", Early, (4, 0)),
        )
        self.check_order(self.book.land, goods, bads)

    def check_order(self, call, goods, bads):
        for at, (field, error, things) in enumerate(bads):
            for bad in things:
                handed = goods | {field: bad}
                with self.subTest(field, bad=bad):
                    self.refused(error, call, *handed.values())
                    self.refused(error, call, **handed)
                for later, later_error, later_things in bads[at + 1:]:
                    if later == field:
                        continue
                    with self.subTest(field, bad=bad, later=later):
                        self.refused(error, call, **(handed | {later: later_things[0]}))
                        self.refused(error, call, **(handed | {later: later_things[-1]}))
        nothings = {name: None for name in goods}
        self.refused(NoDay, call, **nothings)

    def test_early_has_the_last_known_day(self):
        for call, who, what in ((self.book.tell, "ann", "rock"), (self.book.land, "rock", 3)):
            for known in (4, 3, 0):
                self.assertEqual(self.refused(Early, call, known, who, 5, what).latest, 5)
        self.book.land(FAR, "rock", 0, 1)
        self.assertEqual(self.refused(Early, self.book.tell, FAR - 1, "ann", 5, None).latest, FAR)

    def test_nothing_is_early_at_first(self):
        book = Book(RANKS)
        book.tell(0, "ann", 0, "rock")
        book.land(0, "rock", 0, 1)
        self.assertEqual(len(book), 2)

    def test_told_again_on_the_same_known_day(self):
        self.book.tell(5, "ann", 8, "reef")
        self.assertEqual((len(self.book), self.book.where("ann", 8), self.book.where("ann", 8, 4)), (3, "reef", "rock"))
        self.book.tell(5, "ann", 8, None)
        self.assertEqual((len(self.book), self.book.where("ann", 8)), (3, "rock"))
        self.assertIn(("move", 5, "ann", 8, None), self.book.entries())
        self.book.land(5, "rock", 6, 9)
        self.book.land(5, "rock", 6, 11)
        self.assertEqual((len(self.book), self.book.landed("rock", 6), self.book.landed("rock", 6, 4)), (4, 11, 70))
        self.book.land(5, "rock", 6, 0)
        self.assertEqual((len(self.book), self.book.landed("rock", 6)), (4, 0))
        self.assertEqual(self.book.entries(), [
            ("land", 4, "rock", 6, 70), ("land", 5, "rock", 6, 0), ("move", 3, "ann", 5, "rock"), ("move", 5, "ann", 8, None),
        ])

    def test_told_again_on_a_later_known_day(self):
        self.book.tell(6, "ann", 8, "")
        self.book.land(7, "rock", 6, 70)
        self.assertEqual(self.book.entries(), [
            ("land", 4, "rock", 6, 70), ("land", 7, "rock", 6, 70), ("move", 3, "ann", 5, "rock"), ("move", 5, "ann", 8, ""),
            ("move", 6, "ann", 8, ""),
        ])
        self.assertEqual(len(self.book), 5)

    def test_of_other_keepers_lights_and_days_stands_beside(self):
        book = told_book(
            {"rock": 1, "ann": 1}, (1, "rock", 2, "rock"), (1, "ann", 2, "reef"), (1, "ann", 3, ""), (1, "rock", 2, 5),
            (1, "reef", 2, 6), (1, "rock", 3, 7),
        )
        self.assertEqual(len(book), 6)
        self.assertEqual([book.where("rock", 2), book.where("ann", 2), book.where("ann", 3)], ["rock", "reef", ""])
        self.assertEqual([book.landed("rock", 2), book.landed("reef", 2), book.landed("rock", 3)], [5, 6, 7])


class Where(unittest.TestCase):
    def test_as_known_below_at_between_and_behind(self):
        book = told_book(RANKS, (3, "ann", 5, "rock"), (6, "ann", 5, "reef"), (9, "ann", 5, None), (12, "ann", 5, ""))
        wheres = {0: "", 2: "", 3: "rock", 4: "rock", 5: "rock", 6: "reef", 8: "reef", 9: "", 12: "", 13: "", FAR: ""}
        for known, place in wheres.items():
            for day in (5, 6, FAR):
                self.assertEqual(book.where("ann", day, known), place)
            self.assertEqual(book.where("ann", 4, known), "")
        self.assertEqual([book.where("ann", 5), book.where("ann", 5, None), book.where("ann", 5, known=None)], [""] * 3)

    def test_a_move_taken_back(self):
        book = told_book(RANKS, (1, "ann", 2, "rock"), (1, "ann", 5, "reef"), (1, "ann", 9, ""), (4, "ann", 5, None))
        self.assertEqual([book.where("ann", day, 1) for day in (1, 2, 4, 5, 8, 9)], ["", "rock", "rock", "reef", "reef", ""])
        self.assertEqual([book.where("ann", day, 3) for day in (1, 2, 4, 5, 8, 9)], ["", "rock", "rock", "reef", "reef", ""])
        for known in (4, 5, None):
            self.assertEqual([book.where("ann", day, known) for day in (1, 2, 4, 5, 8, 9)], ["", "rock", "rock", "rock", "rock", ""])
        book.tell(7, "ann", 5, "isle")
        self.assertEqual([book.where("ann", 5, known) for known in (3, 6, 7, None)], ["reef", "rock", "isle", "isle"])

    def test_far(self):
        book = told_book(RANKS, (FAR, "ann", FAR, "rock"), (FAR + 2, "ann", FAR - 3, "reef"), (FAR + 2, "rock", FAR, FAR))
        self.assertEqual([book.where("ann", FAR - 1, FAR), book.where("ann", FAR, FAR)], ["", "rock"])
        self.assertEqual([book.where("ann", FAR, FAR - 1), book.where("ann", FAR - 1)], ["", "reef"])
        self.assertEqual([book.where("ann", FAR - 4), book.where("ann", 10 * FAR - 1, 10 * FAR - 1)], ["", "rock"])
        self.assertEqual([book.landed("rock", FAR), book.landed("rock", FAR, FAR + 1), book.landed("rock", FAR + 1)], [FAR, 0, 0])

    def test_nobody_moves_another(self):
        book = told_book(RANKS, (1, "ann", 2, "rock"))
        self.assertEqual([book.where(keeper, 2) for keeper in ("ann", "bob", "cat")], ["rock", "", ""])

    def test_landed(self):
        book = told_book(RANKS, (3, "rock", 5, 40), (6, "rock", 5, 7), (9, "rock", 5, 0))
        weights = {0: 0, 2: 0, 3: 40, 5: 40, 6: 7, 8: 7, 9: 0, FAR: 0, None: 0}
        for known, weight in weights.items():
            self.assertEqual(book.landed("rock", 5, known), weight)
            self.assertEqual([book.landed("rock", day, known) for day in (0, 4, 6, FAR)], [0] * 4)
            self.assertEqual(book.landed("reef", 5, known), 0)
        self.assertEqual(book.landed("never", 5), 0)
        self.assertEqual(Book({}).landed("rock", 0), 0)

    def test_asking_names_no_light(self):
        book = Book(RANKS)
        book.landed("rock", 3)
        self.assertEqual(state(book), (RANKS, [], None, 0))
        self.assertEqual(book, Book(RANKS))

    def test_refused(self):
        book = told_book(RANKS, (1, "ann", 2, "rock"), (1, "rock", 2, 5))
        for ask, error, bads, good in ((book.where, NoKeeper, NO_KEEPERS, "ann"), (book.landed, NoName, NO_NAMES, "rock")):
            for bad in bads:
                for handed in ((bad, 2), (bad, 2, 1), (bad, -1), (bad, 2, -1), (bad, None, True)):
                    with self.subTest(bad), self.assertRaises(error):
                        ask(*handed)
            for bad in NO_DAYS:
                for handed in ((good, bad), (good, bad, 1), (good, bad, None), (good, bad, -1)):
                    with self.subTest(bad), self.assertRaises(NoDay):
                        ask(*handed)
            for bad in NO_KNOWNS:
                with self.subTest(bad), self.assertRaises(NoDay):
                    ask(good, 2, bad)
                with self.subTest(bad), self.assertRaises(NoDay):
                    ask(good, 2, known=bad)

    def test_by_a_plain_going_through(self):
        dice = random.Random(24)
        for number in range(150):
            plain = some_plain(dice)
            book = plain.book()
            for known in knowns_of(plain):
                for day in range(11):
                    for keeper in plain.ranks:
                        self.assertEqual(book.where(keeper, day, known), plain.where(keeper, day, known))
                    for light in ("rock", "reef", "isle"):
                        self.assertEqual(book.landed(light, day, known), plain.landed(light, day, known))

    def test_what_is_told_later_changes_nothing_known_before(self):
        dice = random.Random(25)
        for number in range(60):
            plain = some_plain(dice)
            book = plain.book()
            last = book.last_known() or 0
            asked = [(keeper, day, known) for keeper in RANKS for day in range(11) for known in range(last + 1)]
            before = [book.where(*ask) for ask in asked]
            landed = [book.landed("rock", day, known) for keeper, day, known in asked]
            for more in range(4):
                book.tell(last + 1 + more, dice.choice(list(RANKS)), dice.randrange(9), dice.choice(["rock", "reef", "", None]))
                book.land(last + 1 + more, "rock", dice.randrange(9), dice.randrange(9))
            self.assertEqual([book.where(*ask) for ask in asked], before)
            self.assertEqual([book.landed("rock", day, known) for keeper, day, known in asked], landed)


class Entries(unittest.TestCase):
    def test_sorted(self):
        book = told_book(
            RANKS, (1, "cat", 2, None), (1, "ann", 10, "rock"), (1, "ann", 9, None), (1, "rock", 3, 5), (2, "ann", 9, ""),
            (2, "cat", 2, "reef"), (2, "reef", 10, 5), (2, "reef", 9, 50), (10, "ann", 9, None), (10, "isle", 0, 0),
        )
        self.assertEqual(book.entries(), [
            ("land", 1, "rock", 3, 5), ("land", 2, "reef", 9, 50), ("land", 2, "reef", 10, 5), ("land", 10, "isle", 0, 0),
            ("move", 1, "ann", 9, None), ("move", 1, "ann", 10, "rock"), ("move", 1, "cat", 2, None), ("move", 2, "ann", 9, ""),
            ("move", 2, "cat", 2, "reef"), ("move", 10, "ann", 9, None),
        ])
        self.assertEqual(len(book), 10)
        self.assertIs(type(book.entries()), list)
        self.assertEqual({type(entry) for entry in book.entries()}, {tuple})

    def test_two_hundred(self):
        book = Book(THIRTY)
        for number in range(100):
            book.tell(number, "aa", 99 - number, ("rock", "", None)[number % 3])
            book.land(number, "rock", number % 10, number)
        self.assertEqual(len(book), 200)
        self.assertEqual(book.entries(), sorted(book.entries(), key=lambda entry: entry[:4]))
        self.assertEqual(book.twin(), book)

    def test_told_lists_are_the_askers_own(self):
        book = told_book(RANKS, (1, "cat", 2, None), (1, "rock", 3, 5))
        told, kept = book.entries(), book.entries()
        told.pop()
        told[0] = ("land", 1, "rock", 3, 6)
        told.append(None)
        self.assertEqual((book.entries(), len(book), book.landed("rock", 3)), (kept, 2, 5))


class Equal(unittest.TestCase):
    def check_equal(self, one, other, equal):
        self.assertIs(one == other, equal)
        self.assertIs(other == one, equal)
        self.assertIs(one != other, not equal)
        self.assertIs(other != one, not equal)

    def test_by_another_order_of_telling(self):
        rows = [(1, "ann", 2, "rock"), (1, "bob", 2, None), (1, "rock", 2, 5), (1, "reef", 0, 5)]
        one = told_book(RANKS, *rows)
        self.check_equal(one, one, True)
        self.check_equal(one, told_book(dict(reversed(RANKS.items())), *reversed(rows)), True)
        self.check_equal(Book({}), Book({}), True)
        self.check_equal(told_book(RANKS, (1, "ann", 2, "reef"), *rows), one, True)
        self.check_equal(told_book(RANKS, *rows, *rows), one, True)

    def test_unlike(self):
        one = told_book(RANKS, (1, "ann", 2, "rock"), (1, "rock", 2, 5))
        for other in (
            Book(RANKS), told_book(RANKS, (1, "ann", 2, "rock")), told_book(RANKS, (1, "rock", 2, 5)),
            told_book(RANKS, (1, "ann", 2, "reef"), (1, "rock", 2, 5)), told_book(RANKS, (1, "ann", 2, ""), (1, "rock", 2, 5)),
            told_book(RANKS, (1, "ann", 2, None), (1, "rock", 2, 5)), told_book(RANKS, (1, "ann", 3, "rock"), (1, "rock", 2, 5)),
            told_book(RANKS, (1, "bob", 2, "rock"), (1, "rock", 2, 5)), told_book(RANKS, (0, "ann", 2, "rock"), (1, "rock", 2, 5)),
            told_book(RANKS, (1, "ann", 2, "rock"), (1, "rock", 2, 6)), told_book(RANKS, (1, "ann", 2, "rock"), (1, "reef", 2, 5)),
            told_book(RANKS, (1, "ann", 2, "rock"), (1, "rock", 1, 5)), told_book(RANKS, (1, "ann", 2, "rock"), (2, "rock", 2, 5)),
            told_book(RANKS, (1, "ann", 2, "rock"), (1, "rock", 2, 5), (2, "rock", 2, 5)),
            told_book(RANKS | {"ann": 3}, (1, "ann", 2, "rock"), (1, "rock", 2, 5)),
            told_book(RANKS | {"dan": 3}, (1, "ann", 2, "rock"), (1, "rock", 2, 5)),
            told_book({"ann": 2, "bob": 1}, (1, "ann", 2, "rock"), (1, "rock", 2, 5)),
        ):
            self.check_equal(one, other, False)
        self.check_equal(told_book(RANKS, (1, "ann", 2, "")), told_book(RANKS, (1, "ann", 2, None)), False)
        self.check_equal(told_book(RANKS, (1, "rock", 2, 0)), Book(RANKS), False)

    def test_other_things(self):
        book = Book(RANKS)
        for thing in (None, True, False, 0, 1, "", "ann", [], [book], (), {}, RANKS, (RANKS, []), object(), Book):
            self.check_equal(book, thing, False)
        self.assertIs(book == unittest.mock.ANY, False)


class Twin(unittest.TestCase):
    def test_just_like_it(self):
        for book in (
            Book({}), Book(RANKS), told_book({}, (3, "rock", 2, 5)),
            told_book(RANKS, (9, "ann", 2, "rock"), (9, "bob", 0, None), (10, "rock", 2, 5), (10, "ann", 2, None)),
        ):
            twin = book.twin()
            self.assertIsNot(twin, book)
            self.assertIs(type(twin), Book)
            self.assertEqual((twin, state(twin)), (book, state(book)))
            for known in (None, 8, 9, 10):
                for keeper in book.ranks():
                    self.assertEqual(twin.where(keeper, 2, known), book.where(keeper, 2, known))
                self.assertEqual(twin.landed("rock", 2, known), book.landed("rock", 2, known))

    def test_goes_its_own_way(self):
        book = told_book(RANKS, (1, "ann", 2, "rock"), (1, "rock", 2, 5))
        twin, before = book.twin(), state(book)
        twin.tell(1, "ann", 2, "reef")
        twin.land(1, "rock", 2, 9)
        twin.land(7, "isle", 2, 9)
        self.assertEqual((state(book), book.where("ann", 2), book.landed("rock", 2), book.landed("isle", 2)), (before, "rock", 5, 0))
        other, held = book.twin(), state(twin)
        book.tell(2, "ann", 2, None)
        book.land(3, "rock", 2, 1)
        self.assertEqual((state(other), state(twin)), (before, held))

    def test_by_dice(self):
        dice = random.Random(27)
        for number in range(60):
            book = some_plain(dice).book()
            self.assertEqual(state(book.twin()), state(book))
            self.assertEqual(book.twin(), book)


if __name__ == "__main__":
    unittest.main()
