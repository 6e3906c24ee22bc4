"""Turns, who is at a place, who came and went, what changed [2, 4, 28, 29]."""

import random
import unittest

from books_of import (
    FAR, NO_DAYS, NO_KNOWNS, NO_NAMES, NO_PLACES, RANKS, days_of, knowns_of, some_plain, state, told_book,
)
from lightturns.book import Book
from lightturns.errors import NoDay, NoKeeper, NoPlace
from lightturns.stretches import Stretch, days_in
from lightturns.turns import came, changed, keepers_at, turns, went

PLACES = ("rock", "reef", "isle", "")


class Turns(unittest.TestCase):
    def test_without_a_move(self):
        for book in (Book(RANKS), told_book(RANKS, (1, "bob", 0, "rock")), told_book(RANKS, (1, "ann", 0, None))):
            self.assertEqual(turns(book, "ann"), [("", Stretch(0))])

    def test_from_day_0_on_the_last_one_for_ever(self):
        book = told_book(RANKS, (1, "ann", 3, "rock"), (1, "ann", 7, ""), (1, "ann", 9, "reef"), (1, "ann", 10, "rock"))
        told = turns(book, "ann")
        self.assertEqual(told, [
            ("", Stretch(0, 2)), ("rock", Stretch(3, 6)), ("", Stretch(7, 8)), ("reef", Stretch(9, 9)), ("rock", Stretch(10)),
        ])
        self.assertIs(type(told), list)
        self.assertEqual({type(turn) for turn in told}, {tuple})

    def test_moves_on_day_0(self):
        self.assertEqual(turns(told_book(RANKS, (1, "ann", 0, "rock")), "ann"), [("rock", Stretch(0))])
        self.assertEqual(turns(told_book(RANKS, (1, "ann", 0, "")), "ann"), [("", Stretch(0))])
        book = told_book(RANKS, (1, "ann", 0, "rock"), (1, "ann", 1, ""))
        self.assertEqual(turns(book, "ann"), [("rock", Stretch(0, 0)), ("", Stretch(1))])
        book = told_book(RANKS, (1, "ann", 0, "rock"), (1, "ann", 5, "rock"))
        self.assertEqual(turns(book, "ann"), [("rock", Stretch(0))])

    def test_no_two_that_follow_one_another_at_one_place(self):
        book = told_book(
            RANKS, (1, "ann", 2, ""), (1, "ann", 3, "rock"), (1, "ann", 4, "rock"), (1, "ann", 6, "rock"), (1, "ann", 8, "reef"),
            (1, "ann", 9, "rock"), (1, "ann", 11, ""), (1, "ann", 12, ""),
        )
        self.assertEqual(turns(book, "ann"), [
            ("", Stretch(0, 2)), ("rock", Stretch(3, 7)), ("reef", Stretch(8, 8)), ("rock", Stretch(9, 10)), ("", Stretch(11)),
        ])

    def test_told_in_any_order_of_days(self):
        book = told_book(RANKS, (1, "ann", 9, ""), (2, "ann", 3, "rock"), (3, "ann", 5, "reef"))
        self.assertEqual(turns(book, "ann"), [("", Stretch(0, 2)), ("rock", Stretch(3, 4)), ("reef", Stretch(5, 8)), ("", Stretch(9))])

    def test_as_known(self):
        book = told_book(RANKS, (2, "ann", 3, "rock"), (4, "ann", 3, None), (4, "ann", 5, "reef"), (6, "ann", 5, "rock"))
        never = [("", Stretch(0))]
        for known, told in (
            (0, never), (1, never), (2, [("", Stretch(0, 2)), ("rock", Stretch(3))]), (3, [("", Stretch(0, 2)), ("rock", Stretch(3))]),
            (4, [("", Stretch(0, 4)), ("reef", Stretch(5))]), (6, [("", Stretch(0, 4)), ("rock", Stretch(5))]),
            (FAR, [("", Stretch(0, 4)), ("rock", Stretch(5))]), (None, [("", Stretch(0, 4)), ("rock", Stretch(5))]),
        ):
            self.assertEqual(turns(book, "ann", known), told)
            self.assertEqual(turns(known=known, keeper="ann", book=book), told)
        self.assertEqual(turns(book, "ann"), turns(book, "ann", None))

    def test_far(self):
        book = told_book(RANKS, (FAR, "ann", FAR, "rock"), (FAR + 1, "ann", 2 * FAR, ""))
        self.assertEqual(turns(book, "ann"), [("", Stretch(0, FAR - 1)), ("rock", Stretch(FAR, 2 * FAR - 1)), ("", Stretch(2 * FAR))])
        self.assertEqual(turns(book, "ann", FAR), [("", Stretch(0, FAR - 1)), ("rock", Stretch(FAR))])

    def test_refused(self):
        book = told_book(RANKS, (1, "ann", 2, "rock"))
        for bad in (*NO_NAMES, "dan", "rock"):
            for known in (None, 1, -1, True):
                with self.subTest(bad), self.assertRaises(NoKeeper):
                    turns(book, bad, known)
        for bad in NO_KNOWNS:
            with self.subTest(bad), self.assertRaises(NoDay):
                turns(book, "ann", bad)

    def test_by_where(self):
        dice = random.Random(28)
        for number in range(120):
            plain = some_plain(dice)
            book = plain.book()
            for known in knowns_of(plain):
                for keeper in RANKS:
                    told = turns(book, keeper, known)
                    self.assertEqual(told[0][1].first(), 0)
                    self.assertIsNone(told[-1][1].last())
                    for (place, stretch), (after, later) in zip(told, told[1:]):
                        self.assertNotEqual(place, after)
                        self.assertEqual(stretch.last() + 1, later.first())
                    for day in range(11):
                        self.assertEqual([place for place, stretch in told if stretch.has(day)], [plain.where(keeper, day, known)])


class At(unittest.TestCase):
    def test_by_rank(self):
        book = told_book({"ann": 3, "bob": 1, "cat": 2, "dan": 9}, *[(1, name, 4, "rock") for name in ("dan", "ann", "bob", "cat")])
        self.assertEqual(keepers_at(book, "rock", 4), ["bob", "cat", "ann", "dan"])
        self.assertEqual(keepers_at(book, "rock", 3), [])
        self.assertIs(type(keepers_at(book, "rock", 3)), list)

    def test_of_one_rank_who_has_been_there_longer(self):
        book = told_book(dict.fromkeys(("ann", "bob", "cat"), 2), (1, "ann", 6, "rock"), (1, "bob", 4, "rock"), (1, "cat", 5, "rock"))
        self.assertEqual(keepers_at(book, "rock", 9), ["bob", "cat", "ann"])
        self.assertEqual(keepers_at(book, "rock", 5), ["bob", "cat"])

    def test_longer_by_the_turn(self):
        # The move to the place where one is already begins no turn; a day elsewhere does.
        book = told_book(
            dict.fromkeys(("ann", "bob", "cat"), 2), (1, "cat", 2, "rock"), (1, "cat", 8, "rock"), (1, "bob", 3, "rock"),
            (1, "ann", 1, "rock"), (1, "ann", 4, "reef"), (1, "ann", 5, "rock"),
        )
        self.assertEqual(keepers_at(book, "rock", 9), ["cat", "bob", "ann"])
        self.assertEqual(keepers_at(book, "rock", 3), ["ann", "cat", "bob"])

    def test_of_these_by_name(self):
        book = told_book(dict.fromkeys(("cat", "bob", "ann", "b"), 2), *[(1, name, 5, "rock") for name in ("bob", "cat", "b", "ann")])
        self.assertEqual(keepers_at(book, "rock", 5), ["ann", "b", "bob", "cat"])

    def test_rank_goes_ahead_of_how_long_and_that_of_the_name(self):
        book = told_book({"ann": 2, "bob": 1, "cat": 2}, (1, "ann", 5, "rock"), (1, "bob", 9, "rock"), (1, "cat", 1, "rock"))
        self.assertEqual(keepers_at(book, "rock", 9), ["bob", "cat", "ann"])

    def test_ashore(self):
        book = told_book({"ann": 2, "bob": 2, "cat": 1}, (1, "ann", 3, "rock"), (1, "ann", 5, ""), (1, "cat", 6, "rock"))
        ashore = {0: ["cat", "ann", "bob"], 3: ["cat", "bob"], 5: ["cat", "bob", "ann"], 6: ["bob", "ann"]}
        self.assertEqual({day: keepers_at(book, "", day) for day in ashore}, ashore)
        self.assertEqual(keepers_at(Book({}), "", 0), [])
        self.assertEqual(keepers_at(Book(RANKS), "", FAR), ["bob", "ann", "cat"])

    def test_as_known(self):
        book = told_book(RANKS, (2, "ann", 3, "rock"), (4, "bob", 3, "rock"), (6, "ann", 3, None))
        told = {0: [], 2: ["ann"], 3: ["ann"], 4: ["bob", "ann"], 5: ["bob", "ann"], 6: ["bob"], None: ["bob"]}
        for known, names in told.items():
            self.assertEqual(keepers_at(book, "rock", 3, known), names)
            self.assertEqual(keepers_at(known=known, day=3, place="rock", book=book), names)
        self.assertEqual(keepers_at(book, "rock", 3), ["bob"])

    def test_by_a_plain_going_through(self):
        dice = random.Random(29)
        ranks = {"ann": 2, "bob": 1, "cat": 2, "dan": 2}
        for number in range(80):
            plain = some_plain(dice, ranks)
            book = plain.book()
            for known in knowns_of(plain):
                for day in range(11):
                    for place in PLACES:
                        there = [name for name in ranks if plain.where(name, day, known) == place]
                        longs = {name: self.days_on_end(plain, name, day, known) for name in there}
                        in_charge = sorted(there, key=lambda name: (ranks[name], -longs[name], name))
                        self.assertEqual(keepers_at(book, place, day, known), in_charge)

    def days_on_end(self, plain, keeper, day, known):
        many = 0
        while many <= day and plain.where(keeper, day - many, known) == plain.where(keeper, day, known):
            many += 1
        return many


class CameAndWent(unittest.TestCase):
    def test_came_and_went(self):
        book = told_book(
            {"ann": 9, "bob": 1, "cat": 2, "dan": 1}, (1, "cat", 3, "rock"), (1, "ann", 3, "rock"), (1, "bob", 5, "rock"),
            (1, "ann", 5, "reef"), (1, "cat", 5, ""), (1, "bob", 6, "rock"),
        )
        self.assertEqual([came(book, "rock", day) for day in range(8)], [[], [], [], ["ann", "cat"], [], ["bob"], [], []])
        self.assertEqual([went(book, "rock", day) for day in range(8)], [[], [], [], [], [], ["ann", "cat"], [], []])
        self.assertEqual([came(book, "reef", 5), went(book, "reef", 5), came(book, "isle", 5)], [["ann"], [], []])
        self.assertEqual([came(book, "", 5), went(book, "", 5), went(book, "", 3)], [["cat"], ["bob"], ["ann", "cat"]])

    def test_by_name_not_in_order_of_charge(self):
        book = told_book({"ann": 9, "bob": 1, "cat": 4}, *[(1, name, 3, "rock") for name in ("bob", "cat", "ann")])
        self.assertEqual((came(book, "rock", 3), went(book, "", 3)), (["ann", "bob", "cat"], ["ann", "bob", "cat"]))

    def test_on_day_0(self):
        book = told_book({"bob": 1, "ann": 2, "cat": 3}, (1, "bob", 0, "rock"), (1, "ann", 0, "rock"))
        self.assertEqual([came(book, "rock", 0), came(book, "", 0), came(book, "reef", 0)], [["ann", "bob"], ["cat"], []])
        self.assertEqual([went(book, place, 0) for place in PLACES], [[]] * 4)
        self.assertEqual([came(book, "rock", 1), went(book, "rock", 1)], [[], []])

    def test_as_known(self):
        book = told_book(
            RANKS, (2, "ann", 3, "rock"), (2, "ann", 5, ""), (4, "ann", 3, None), (4, "ann", 4, "rock"), (6, "ann", 5, None),
        )
        for known, days_came, days_went in ((1, [], []), (2, [3], [5]), (3, [3], [5]), (4, [4], [5]), (6, [4], []), (None, [4], [])):
            for day in range(8):
                self.assertEqual(came(book, "rock", day, known), ["ann"] if day in days_came else [])
                self.assertEqual(went(book, "rock", day, known), ["ann"] if day in days_went else [])
        self.assertEqual(came(known=2, day=3, place="rock", book=book), ["ann"])
        self.assertEqual(went(known=2, day=5, place="rock", book=book), ["ann"])

    def test_far(self):
        book = told_book(RANKS, (1, "ann", FAR, "rock"), (1, "ann", FAR + 9, ""))
        self.assertEqual([came(book, "rock", FAR), came(book, "rock", FAR + 1), went(book, "rock", FAR + 9)], [["ann"], [], ["ann"]])

    def test_by_a_plain_going_through(self):
        dice = random.Random(30)
        for number in range(60):
            plain = some_plain(dice)
            book = plain.book()
            for known in knowns_of(plain):
                for place in PLACES:
                    before = []
                    for day in range(11):
                        now = sorted(name for name in RANKS if plain.where(name, day, known) == place)
                        self.assertEqual(came(book, place, day, known), [name for name in now if name not in before])
                        self.assertEqual(went(book, place, day, known), [name for name in before if name not in now])
                        before = now


class RefusedAtAPlace(unittest.TestCase):
    def test_refused(self):
        book = told_book(RANKS, (1, "ann", 2, "rock"))
        for ask in (keepers_at, came, went):
            for bad in NO_PLACES:
                for day, known in ((2, None), (2, 1), (-1, None), (2, -1), (None, True)):
                    with self.subTest(ask.__name__, bad=bad), self.assertRaises(NoPlace):
                        ask(book, bad, day, known)
            for bad in NO_DAYS:
                for known in (None, 1, -1):
                    with self.subTest(ask.__name__, bad=bad), self.assertRaises(NoDay):
                        ask(book, "rock", bad, known)
            for bad in NO_KNOWNS:
                for place in ("rock", "", "never"):
                    for day in (0, 2):
                        with self.subTest(ask.__name__, bad=bad), self.assertRaises(NoDay):
                            ask(book, place, day, bad)
            for bad in NO_KNOWNS:
                with self.subTest(ask.__name__, bad=bad), self.assertRaises(NoDay):
                    ask(Book({}), "rock", 0, bad)

    def test_none_is_no_place(self):
        for ask in (keepers_at, came, went):
            with self.assertRaises(NoPlace):
                ask(Book(RANKS), None, 0)


class Changed(unittest.TestCase):
    def test_nothing(self):
        book = told_book(RANKS, (2, "ann", 3, "rock"))
        for before, after in ((0, 0), (0, 1), (2, 2), (2, 3), (3, FAR), (FAR, FAR)):
            self.assertEqual(changed(book, before, after), [])
        self.assertEqual(changed(Book({}), 0, 5), [])
        self.assertIs(type(changed(Book({}), 0, 5)), list)

    def test_told_once(self):
        book = told_book(RANKS, (2, "ann", 3, "rock"))
        for before, after in ((0, 2), (1, 2), (1, FAR)):
            self.assertEqual(changed(book, before, after), [("ann", [Stretch(3)])])

    def test_told_late_up_to_the_next_move_and_no_others(self):
        book = told_book(RANKS, (1, "ann", 3, "rock"), (1, "ann", 9, ""), (1, "bob", 4, "rock"), (5, "ann", 6, "reef"))
        self.assertEqual(changed(book, 1, 5), [("ann", [Stretch(6, 8)])])
        self.assertEqual(changed(book, 4, 5), [("ann", [Stretch(6, 8)])])
        self.assertEqual(changed(book, 0, 5), [("ann", [Stretch(3, 8)]), ("bob", [Stretch(4)])])
        self.assertEqual(changed(before=4, after=5, book=book), [("ann", [Stretch(6, 8)])])

    def test_taken_back(self):
        book = told_book(
            RANKS, (1, "ann", 3, "rock"), (1, "ann", 6, "reef"), (1, "ann", 9, ""), (5, "ann", 6, None), (7, "ann", 6, "reef"),
        )
        self.assertEqual(changed(book, 1, 5), [("ann", [Stretch(6, 8)])])
        self.assertEqual(changed(book, 5, 7), [("ann", [Stretch(6, 8)])])
        self.assertEqual(changed(book, 1, 7), [])
        self.assertEqual(changed(book, 0, 7), [("ann", [Stretch(3, 8)])])

    def test_a_move_to_where_one_is_changes_nothing(self):
        book = told_book(RANKS, (1, "ann", 3, "rock"), (2, "ann", 5, "rock"), (2, "bob", 0, ""), (3, "ann", 5, "reef"))
        self.assertEqual(changed(book, 1, 2), [])
        self.assertEqual(changed(book, 2, 3), [("ann", [Stretch(5)])])

    def test_days_with_others_between(self):
        book = told_book(
            RANKS, (1, "ann", 3, "rock"), (1, "ann", 6, "reef"), (1, "ann", 8, "rock"), (1, "ann", 10, ""), (2, "ann", 3, "isle"),
            (2, "ann", 8, "isle"), (2, "ann", 9, "skerry"),
        )
        self.assertEqual(changed(book, 1, 2), [("ann", [Stretch(3, 5), Stretch(8, 9)])])

    def test_by_name(self):
        book = told_book({"cat": 1, "ann": 2, "bob": 3, "b": 4}, *[(1, name, 3, "rock") for name in ("bob", "cat", "b")])
        self.assertEqual(changed(book, 0, 1), [("b", [Stretch(3)]), ("bob", [Stretch(3)]), ("cat", [Stretch(3)])])

    def test_far(self):
        book = told_book(RANKS, (FAR, "ann", FAR, "rock"), (FAR + 5, "ann", 7, "reef"), (FAR + 5, "ann", FAR + 7, ""))
        self.assertEqual(changed(book, FAR - 1, FAR), [("ann", [Stretch(FAR)])])
        self.assertEqual(changed(book, FAR, FAR + 5), [("ann", [Stretch(7, FAR - 1), Stretch(FAR + 7)])])

    def test_refused(self):
        book = told_book(RANKS, (1, "ann", 2, "rock"))
        for bad in NO_DAYS:
            for handed in ((bad, 5), (5, bad), (bad, bad)):
                with self.subTest(handed), self.assertRaises(NoDay):
                    changed(book, *handed)
        for handed in ((1, 0), (FAR, FAR - 1), (5, 1)):
            with self.subTest(handed), self.assertRaises(NoDay):
                changed(book, *handed)

    def test_by_a_plain_going_through(self):
        dice = random.Random(31)
        for number in range(80):
            plain = some_plain(dice)
            book = plain.book()
            knowns = knowns_of(plain)[1:]
            for before in knowns:
                for after in range(before, knowns[-1] + 1):
                    told = dict(changed(book, before, after))
                    for keeper in RANKS:
                        days = [day for day in range(11) if plain.where(keeper, day, before) != plain.where(keeper, day, after)]
                        self.assertEqual(days_of(told.get(keeper, []), 10), days)
                        self.assertEqual(told.get(keeper, []), days_in(told.get(keeper, [])))
                    self.assertEqual(list(told), sorted(told))
                    self.assertNotIn([], list(told.values()))

    def test_what_is_told_once_changes_days_up_to_the_next_move(self):
        dice = random.Random(32)
        for number in range(120):
            plain = some_plain(dice)
            book = plain.book()
            last = book.last_known() or 0
            day, place = dice.randrange(9), dice.choice(["rock", "reef", "", None])
            nexts = [first for first in range(day + 1, 9) if plain.held("move", "ann", first, None) is not None]
            book.tell(last + 1, "ann", day, place)
            told = changed(book, last, last + 1)
            self.assertIn(told, ([], [("ann", [Stretch(day, nexts[0] - 1 if nexts else None)])]))


class Alike(unittest.TestCase):
    def setUp(self):
        self.book = told_book(RANKS, (1, "ann", 3, "rock"), (1, "bob", 3, "rock"), (2, "ann", 5, ""))
        self.asks = (
            lambda: turns(self.book, "ann"), lambda: keepers_at(self.book, "rock", 3), lambda: came(self.book, "rock", 3),
            lambda: went(self.book, "rock", 5), lambda: changed(self.book, 0, 2),
        )

    def test_asked_again_the_same_is_told(self):
        before = state(self.book)
        for ask in self.asks:
            told = ask()
            self.assertEqual(ask(), told)
            self.assertTrue(told)
        self.assertEqual(state(self.book), before)

    def test_told_lists_are_the_askers_own(self):
        for ask in self.asks:
            told, kept = ask(), ask()
            told.clear()
            self.assertEqual(ask(), kept)
        told, kept = changed(self.book, 0, 2), changed(self.book, 0, 2)
        told[0][1].clear()
        self.assertEqual(changed(self.book, 0, 2), kept)
        self.assertEqual(told[1], kept[1])

    def test_a_book_told_on_is_looked_at_as_it_is_then(self):
        before = [ask() for ask in self.asks]
        for keeper in ("ann", "bob"):
            self.book.tell(2, keeper, 3, "reef")
        self.assertEqual([ask() for ask in self.asks], [
            [("", Stretch(0, 2)), ("reef", Stretch(3, 4)), ("", Stretch(5))], [], [], [],
            [("ann", [Stretch(3, 4)]), ("bob", [Stretch(3)])],
        ])
        self.assertEqual(before[0], [("", Stretch(0, 2)), ("rock", Stretch(3, 4)), ("", Stretch(5))])


if __name__ == "__main__":
    unittest.main()
