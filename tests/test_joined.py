"""Two books made one, and a round told as a book [2, 4, 35, 36, 37]."""

import itertools
import random
import unittest

from books_of import FAR, NO_DAYS, NO_NAMES, RANKS, knowns_of, some_plain, state, told_book
from lightturns.book import Book
from lightturns.errors import Clash, NoDay, NoNames, NoNumber, NoPlace, TooMany
from lightturns.joined import clashes, joined, told_round
from lightturns.rounds import Round

NAMES = [one + other for one in "abcdefgh" for other in "abcdef"]


def some_two(dice):
    """Two books of some keepers, some of them in both, thrown with dice."""
    ranks = {name: dice.randrange(1, 3) for name in ("ann", "bob", "cat")}
    others = {name: dice.randrange(1, 3) if dice.randrange(6) == 0 else ranks.get(name, 1) for name in ("bob", "cat", "dan")}
    return some_plain(dice, ranks, days=4), some_plain(dice, others, days=4)


class Clashes(unittest.TestCase):
    def check(self, one, other, told):
        before = state(one), state(other)
        for found in (clashes(one, other), clashes(other, one), clashes(one=one, other=other), clashes(other=one, one=other)):
            self.assertEqual(found, told)
            self.assertIs(type(found), list)
            self.assertLessEqual({type(row) for row in found}, {tuple})
        self.assertEqual((state(one), state(other)), before)

    def test_none(self):
        book = told_book(RANKS, (1, "ann", 2, "rock"), (1, "rock", 2, 5))
        self.check(Book({}), Book({}), [])
        self.check(book, Book({}), [])
        self.check(book, book, [])
        self.check(book, book.twin(), [])
        self.check(book, told_book({"dan": 1}, (1, "dan", 2, "reef"), (1, "reef", 2, 6)), [])

    def test_keepers_of_unlike_ranks(self):
        self.check(Book({"ann": 1, "bob": 2, "cat": 3}), Book({"cat": 4, "bob": 2, "ann": 2, "dan": 1}), [("keeper", "ann"), ("keeper", "cat")])

    def test_landings_of_one_known_day(self):
        one = told_book({}, (1, "rock", 2, 5), (1, "reef", 2, 5), (2, "rock", 2, 5), (3, "rock", 2, 0))
        self.check(one, told_book({}, (1, "rock", 2, 6)), [("land", 1, "rock", 2)])
        self.check(one, told_book({}, (3, "rock", 2, 6)), [("land", 3, "rock", 2)])
        self.check(one, told_book({}, (1, "rock", 2, 5), (1, "rock", 3, 6), (1, "isle", 2, 6), (4, "rock", 2, 6)), [])

    def test_moves_of_one_known_day(self):
        one = told_book(RANKS, (1, "ann", 2, "rock"), (1, "bob", 2, None), (1, "cat", 2, ""), (2, "ann", 2, "rock"))
        for place, told in (("rock", []), ("reef", [("move", 1, "ann", 2)]), ("", [("move", 1, "ann", 2)]), (None, [("move", 1, "ann", 2)])):
            self.check(one, told_book(RANKS, (1, "ann", 2, place)), told)
        for place, told in ((None, []), ("reef", [("move", 1, "bob", 2)]), ("", [("move", 1, "bob", 2)])):
            self.check(one, told_book(RANKS, (1, "bob", 2, place)), told)
        for place, told in (("", []), ("reef", [("move", 1, "cat", 2)]), (None, [("move", 1, "cat", 2)])):
            self.check(one, told_book(RANKS, (1, "cat", 2, place)), told)
        self.check(one, told_book(RANKS, (0, "ann", 2, "reef"), (1, "ann", 3, "reef"), (3, "ann", 2, "reef")), [])

    def test_sorted(self):
        one = told_book(
            {"cat": 1, "ann": 1, "bob": 1}, (2, "cat", 10, "rock"), (2, "cat", 9, "rock"), (2, "bob", 5, None), (10, "ann", 1, ""),
            (10, "rock", 1, 1), (10, "reef", 4, 1), (10, "reef", 11, 1),
        )
        other = told_book(
            {"cat": 2, "ann": 1, "bob": 2}, (2, "cat", 10, "reef"), (2, "cat", 9, "reef"), (2, "bob", 5, ""), (10, "ann", 1, None),
            (10, "rock", 1, 2), (10, "reef", 4, 2), (10, "reef", 11, 2),
        )
        self.check(one, other, [
            ("keeper", "bob"), ("keeper", "cat"), ("land", 10, "reef", 4), ("land", 10, "reef", 11), ("land", 10, "rock", 1),
            ("move", 2, "bob", 5), ("move", 2, "cat", 9), ("move", 2, "cat", 10), ("move", 10, "ann", 1),
        ])

    def test_far(self):
        self.check(told_book({}, (FAR, "rock", FAR, 1)), told_book({}, (FAR, "rock", FAR, FAR)), [("land", FAR, "rock", FAR)])

    def test_by_a_plain_going_through(self):
        dice = random.Random(39)
        some = 0
        for number in range(300):
            plain, other = some_two(dice)
            one, two = plain.book(), other.book()
            told = [("keeper", name) for name in plain.ranks if name in other.ranks and plain.ranks[name] != other.ranks[name]]
            for entry, later in itertools.product(one.entries(), two.entries()):
                if entry[:4] == later[:4] and entry != later:
                    told.append(entry[:4])
            self.check(one, two, sorted(told))
            some += bool(told)
        self.assertGreater(some, 50)

    def test_told_lists_are_the_askers_own(self):
        one, other = Book({"ann": 1}), Book({"ann": 2})
        clashes(one, other).clear()
        self.assertEqual(clashes(one, other), [("keeper", "ann")])


class Joined(unittest.TestCase):
    def check(self, one, other, ranks, entries, last):
        before = state(one), state(other)
        for made in (joined(one, other), joined(other, one), joined(other=one, one=other)):
            self.assertIs(type(made), Book)
            self.assertEqual(state(made), (ranks, entries, last, len(entries)))
        self.assertEqual((state(one), state(other)), before)

    def test_the_keepers_and_entries_of_both(self):
        one = told_book({"ann": 1, "bob": 2}, (1, "ann", 2, "rock"), (5, "ann", 2, None), (5, "rock", 4, 7))
        other = told_book({"bob": 2, "cat": 3}, (0, "cat", 2, ""), (3, "bob", 2, "rock"), (4, "rock", 4, 7), (9, "reef", 0, 0))
        self.check(one, other, {"ann": 1, "bob": 2, "cat": 3}, [
            ("land", 4, "rock", 4, 7), ("land", 5, "rock", 4, 7), ("land", 9, "reef", 0, 0), ("move", 0, "cat", 2, ""),
            ("move", 1, "ann", 2, "rock"), ("move", 3, "bob", 2, "rock"), ("move", 5, "ann", 2, None),
        ], 9)

    def test_each_once(self):
        one = told_book(RANKS, (1, "ann", 2, "rock"), (1, "rock", 2, 5))
        other = told_book(RANKS, (1, "rock", 2, 5), (1, "ann", 2, "rock"), (2, "bob", 2, None))
        self.check(one, other, RANKS, [("land", 1, "rock", 2, 5), ("move", 1, "ann", 2, "rock"), ("move", 2, "bob", 2, None)], 2)

    def test_with_none(self):
        book = told_book(RANKS, (1, "ann", 2, "rock"))
        self.check(Book({}), Book({}), {}, [], None)
        self.check(book, Book({}), RANKS, book.entries(), 1)
        self.check(Book({"dan": 9}), book, RANKS | {"dan": 9}, book.entries(), 1)

    def test_with_itself(self):
        book = told_book(RANKS, (1, "ann", 2, "rock"), (3, "rock", 2, 5))
        made, before = joined(book, book), state(book)
        self.assertEqual(made, book)
        self.assertIsNot(made, book)
        made.tell(3, "ann", 2, "reef")
        self.assertEqual(state(book), before)

    def test_a_new_one(self):
        one, other = told_book({"ann": 1}, (1, "ann", 2, "rock")), told_book({"bob": 1}, (2, "bob", 2, "rock"), (2, "rock", 1, 1))
        made = joined(one, other)
        held = state(made)
        one.tell(7, "ann", 2, "reef")
        other.land(7, "rock", 1, 9)
        self.assertEqual(state(made), held)
        before = state(one), state(other)
        made.tell(2, "ann", 2, "isle")
        made.tell(3, "bob", 2, None)
        self.assertEqual((state(one), state(other)), before)

    def test_what_two_books_tell_of_a_keeper_holds_by_their_known_days(self):
        one = told_book({"ann": 1}, (1, "ann", 3, "rock"), (5, "ann", 3, None))
        other = told_book({"ann": 1}, (3, "ann", 3, "reef"), (4, "ann", 6, ""))
        for made in (joined(one, other), joined(other, one)):
            wheres = {0: ("", ""), 1: ("rock", "rock"), 2: ("rock", "rock"), 3: ("reef", "reef"), 4: ("reef", ""), 5: ("", ""), None: ("", "")}
            for known, places in wheres.items():
                self.assertEqual((made.where("ann", 3, known), made.where("ann", 6, known)), places)

    def refused(self, error, one, other):
        before, caught_all = (state(one), state(other)), []
        for handed in ((one, other), (other, one)):
            with self.assertRaises(error) as caught:
                joined(*handed)
            caught_all.append(caught.exception)
        self.assertEqual((state(one), state(other)), before)
        return caught_all

    def test_clash(self):
        one = told_book({"ann": 1, "bob": 2}, (1, "bob", 2, "rock"), (1, "rock", 2, 5))
        other = told_book({"ann": 2, "bob": 2}, (1, "bob", 2, None), (1, "rock", 2, 6))
        told = [("keeper", "ann"), ("land", 1, "rock", 2), ("move", 1, "bob", 2)]
        for error in self.refused(Clash, one, other):
            self.assertEqual(error.clashes, told)
            self.assertIs(type(error.clashes), list)
            error.clashes.clear()
        self.assertEqual(clashes(one, other), told)
        for error in self.refused(Clash, one, other):
            self.assertEqual(error.clashes, told)

    def test_more_than_thirty_keepers(self):
        twenty = Book(dict.fromkeys(NAMES[:20], 1))
        self.check(twenty, Book(dict.fromkeys(NAMES[10:30], 1)), dict.fromkeys(NAMES[:30], 1), [], None)
        self.check(twenty, Book(dict.fromkeys(NAMES[20:30], 1)), dict.fromkeys(NAMES[:30], 1), [], None)
        self.refused(TooMany, twenty, Book(dict.fromkeys(NAMES[10:31], 1)))
        self.refused(TooMany, twenty, Book(dict.fromkeys(NAMES[20:48], 1)))

    def test_a_clash_goes_ahead_of_too_many(self):
        one, other = Book(dict.fromkeys(NAMES[:20], 1)), Book(dict.fromkeys(NAMES[15:40], 1) | {NAMES[16]: 2})
        for error in self.refused(Clash, one, other):
            self.assertEqual(error.clashes, [("keeper", NAMES[16])])

    def test_by_a_plain_going_through(self):
        dice = random.Random(40)
        made_some = 0
        for number in range(200):
            plain, other = some_two(dice)
            one, two = plain.book(), other.book()
            found = clashes(one, two)
            if found:
                for error in self.refused(Clash, one, two):
                    self.assertEqual(error.clashes, found)
                continue
            entries = sorted({*one.entries(), *two.entries()}, key=lambda entry: entry[:4])
            self.check(one, two, plain.ranks | other.ranks, entries, max([entry[1] for entry in entries], default=None))
            made, told = joined(one, two), type(plain)(plain.ranks | other.ranks)
            told.told = sorted(entries, key=lambda entry: entry[1])
            for known in knowns_of(told):
                for day in range(6):
                    self.assertEqual([made.where(name, day, known) for name in told.ranks], [told.where(name, day, known) for name in told.ranks])
                    self.assertEqual(made.landed("rock", day, known), told.landed("rock", day, known))
            made_some += 1
        self.assertGreater(made_some, 50)


class ToldRound(unittest.TestCase):
    def by_going_through(self, round_of, names, place, first, slot, slots):
        """The moves slot by slot, as [37] words them."""
        entries = []
        for number, name in enumerate(names):
            on = [number in round_of.on_in(each) for each in range(slots)]
            for each in range(slots):
                if on[each] and (each == 0 or not on[each - 1]):
                    entries.append(("move", 0, name, first + each * slot, place))
                if on[each] and (each == slots - 1 or not on[each + 1]):
                    entries.append(("move", 0, name, first + (each + 1) * slot, ""))
        return sorted(entries)

    def test_by_a_plain_going_through(self):
        names = ["cat", "ann", "bob"]
        for on, off in itertools.product(range(1, 4), range(4)):
            for many in range(3):
                for begins in itertools.product(range(on + off), repeat=many):
                    for slots, (first, slot) in itertools.product(range(10), ((0, 1), (5, 7))):
                        made = told_round(Round(on, off, begins), names[:many], "rock", first, slot, slots)
                        told = self.by_going_through(Round(on, off, begins), names[:many], "rock", first, slot, slots)
                        self.assertEqual(made.entries(), told)
                        self.assertEqual(made.ranks(), dict.fromkeys(names[:many], 1))

    def test_a_book_of_rank_1_told_on_known_day_0(self):
        made = told_round(Round(2, 1, [0, 1]), ["bob", "ann"], "rock", 10, 7, 4)
        self.assertIs(type(made), Book)
        self.assertEqual(state(made), ({"ann": 1, "bob": 1}, [
            ("move", 0, "ann", 17, "rock"), ("move", 0, "ann", 31, ""), ("move", 0, "bob", 10, "rock"), ("move", 0, "bob", 24, ""),
            ("move", 0, "bob", 31, "rock"), ("move", 0, "bob", 38, ""),
        ], 0, 6))

    def test_one_who_is_on_in_every_slot(self):
        told = [("move", 0, "ann", 3, "rock"), ("move", 0, "ann", 3 + 5 * 10, "")]
        for round_of in (Round(1, 0, [0]), Round(4, 0, [3]), Round(10, 1, [0]), Round(10, 5, [0]), Round(12, 1, [11])):
            self.assertEqual(told_round(round_of, ["ann"], "rock", 3, 5, 10).entries(), told)

    def test_no_slots_and_no_keepers(self):
        for slots in (0, 5, FAR):
            self.assertEqual(state(told_round(Round(2, 3, []), [], "rock", 0, 1, slots)), ({}, [], None, 0))
        made = told_round(Round(2, 3, [0, 4]), ["ann", "bob"], "rock", 3, 2, 0)
        self.assertEqual(state(made), ({"ann": 1, "bob": 1}, [], None, 0))
        self.assertEqual(len(told_round(Round(2, 0, [0]), ["ann"], "rock", 3, 2, 0)), 0)

    def test_defaults(self):
        round_of = Round(1, 1, [0, 1])
        told = [("move", 0, "ann", 0, "rock"), ("move", 0, "ann", 1, "")]
        self.assertEqual(told_round(round_of, ["ann", "bob"], "rock").entries(), told)
        self.assertEqual(told_round(round_of, ("ann", "bob"), "rock", 7).entries(), [("move", 0, "ann", 7, "rock"), ("move", 0, "ann", 8, "")])
        self.assertEqual(told_round(round_of, ["ann", "bob"], "rock", slot=9).entries(), [("move", 0, "ann", 0, "rock"), ("move", 0, "ann", 9, "")])
        self.assertEqual(told_round(round_of, ["ann", "bob"], "rock", slots=2), told_round(round_of, ["ann", "bob"], "rock", 0, 1, 2))

    def test_by_name(self):
        round_of = Round(1, 1, [0, 1])
        by_place = told_round(round_of, ["ann", "bob"], "rock", 3, 4, 5)
        self.assertEqual(told_round(slots=5, slot=4, first=3, place="rock", names=["ann", "bob"], round_of=round_of), by_place)

    def test_far(self):
        made = told_round(Round(3, 4, [0, 6]), ["ann", "bob"], "rock", FAR, FAR, 8)
        self.assertEqual(made.entries(), [
            ("move", 0, "ann", FAR, "rock"), ("move", 0, "ann", 4 * FAR, ""), ("move", 0, "ann", 8 * FAR, "rock"),
            ("move", 0, "ann", 9 * FAR, ""), ("move", 0, "bob", FAR, "rock"), ("move", 0, "bob", 3 * FAR, ""),
            ("move", 0, "bob", 7 * FAR, "rock"), ("move", 0, "bob", 9 * FAR, ""),
        ])

    def test_so_many_slots_with_few_moves(self):
        made = told_round(Round(FAR, 2 * FAR, [0, 2 * FAR, FAR]), ["ann", "bob", "cat"], "rock", 1, 2, 4 * FAR)
        self.assertEqual(made.entries(), [
            ("move", 0, "ann", 1, "rock"), ("move", 0, "ann", 1 + 2 * FAR, ""), ("move", 0, "ann", 1 + 6 * FAR, "rock"),
            ("move", 0, "ann", 1 + 8 * FAR, ""), ("move", 0, "bob", 1 + 4 * FAR, "rock"), ("move", 0, "bob", 1 + 6 * FAR, ""),
            ("move", 0, "cat", 1 + 2 * FAR, "rock"), ("move", 0, "cat", 1 + 4 * FAR, ""),
        ])
        made = told_round(Round(1, 0, [0] * 30), NAMES[:30], "rock", 0, 1, FAR)
        self.assertEqual((len(made), made.where(NAMES[3], FAR - 1), made.where(NAMES[3], FAR)), (60, "rock", ""))

    def test_just_a_hundred_moves_and_more(self):
        self.assertEqual(len(told_round(Round(1, 1, [0]), ["ann"], "rock", 0, 1, 100)), 100)
        self.assertEqual(len(told_round(Round(1, 1, [0]), ["ann"], "rock", 0, 1, 99)), 100)
        self.assertEqual(len(told_round(Round(1, 1, [1]), ["ann"], "rock", 0, 1, 101)), 100)
        self.assertEqual(len(told_round(Round(2, 3, [1, 3]), ["ann", "bob"], "rock", 0, 1, 125)), 100)
        thirty = Round(1, FAR, list(range(30)))
        self.assertEqual(len(told_round(thirty, NAMES[:30], "rock", 0, 1, FAR)), 60)
        for round_of, slots in (
            (Round(1, 1, [0]), 101), (Round(1, 1, [0]), 102), (Round(1, 1, [1]), 102), (Round(1, 1, [0]), FAR),
            (Round(2, 3, [1, 3]), 127), (Round(1, 1, [0, 1]), 51), (thirty, 2 * FAR), (Round(1, 1, [0] * 30), FAR),
        ):
            with self.assertRaises(TooMany):
                told_round(round_of, NAMES[:len(round_of)], "rock", 0, 1, slots)
        self.assertEqual(len(told_round(Round(1, 1, [0, 1]), ["ann", "bob"], "rock", 0, 1, 50)), 100)

    def test_the_book_is_one_of_its_own(self):
        names, round_of = ["ann", "bob"], Round(1, 1, [0, 1])
        made = told_round(round_of, names, "rock", 0, 1, 3)
        held = state(made)
        self.assertEqual(names, ["ann", "bob"])
        names.reverse()
        self.assertEqual(state(made), held)
        other = told_round(round_of, ["ann", "bob"], "rock", 0, 1, 3)
        other.tell(5, "ann", 0, None)
        self.assertEqual(state(made), held)
        self.assertEqual(state(told_round(round_of, ["ann", "bob"], "rock", 0, 1, 3)), held)

    def refused(self, error, **handed):
        goods = {"round_of": Round(1, 1, [0, 1]), "names": ["ann", "bob"], "place": "rock", "first": 0, "slot": 1, "slots": 1} | handed
        with self.subTest(**handed), self.assertRaises(error):
            told_round(**goods)
        with self.subTest(**handed), self.assertRaises(error):
            told_round(*goods.values())

    def test_no_names(self):
        bads = [
            None, True, False, 0, 2, "", "ab", b"ab", {}, {"ann": 1, "bob": 2}, set(), {"ann", "bob"}, object(), Book, [], (), ["ann"],
            ("ann",), ["ann", "bob", "cat"], ("ann", "bob", "cat"), ["ann", "ann"], ("ann", "ann"),
        ]
        for bad in NO_NAMES:
            bads += [["ann", bad], (bad, "bob"), [bad, bad]]
        for bad in bads:
            self.refused(NoNames, names=bad)
            self.refused(NoNames, names=bad, place="")
            self.refused(NoNames, names=bad, first=-1)
            self.refused(NoNames, names=bad, slot=0, slots=-1)
            self.refused(NoNames, names=bad, slots=FAR)

    def test_thirty_names_at_most(self):
        self.assertEqual(len(told_round(Round(1, 0, [0] * 30), NAMES[:30], "rock").ranks()), 30)
        for many in (31, 40):
            self.refused(NoNames, round_of=Round(1, 0, [0] * many), names=NAMES[:many])
            self.refused(NoNames, round_of=Round(1, 0, [0] * many), names=NAMES[:30])

    def test_no_place(self):
        for bad in NO_NAMES:
            self.refused(NoPlace, place=bad)
            self.refused(NoPlace, place=bad, first=-1)
            self.refused(NoPlace, place=bad, slot=0, slots=-1)
            self.refused(NoPlace, place=bad, slots=FAR)

    def test_no_day(self):
        for bad in NO_DAYS:
            self.refused(NoDay, first=bad)
            self.refused(NoDay, first=bad, slot=0)
            self.refused(NoDay, first=bad, slots=-1)
            self.refused(NoDay, first=bad, slots=FAR)

    def test_no_number(self):
        for bad in NO_DAYS:
            self.refused(NoNumber, slot=bad)
            self.refused(NoNumber, slots=bad)
            self.refused(NoNumber, slot=bad, slots=FAR)
        self.refused(NoNumber, slot=0)
        self.refused(NoNumber, slot=0, slots=FAR)


if __name__ == "__main__":
    unittest.main()
