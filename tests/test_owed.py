"""Days over, owed and given back [2, 4, 30, 31]."""

import random
import unittest

from books_of import FAR, NO_DAYS, NO_KNOWNS, NO_NAMES, RANKS, days_of, knowns_of, some_plain, state, told_book
from lightturns.book import Book
from lightturns.errors import NoDay, NoKeeper, NoNumber
from lightturns.owed import days_given, days_over, days_owed
from lightturns.stretches import Stretch, days_in, only_days

ONE = {"ann": 1}


def out_on(*stretches):
    """A book in which ann is at lights on the days of these stretches, told on known day 0."""
    rows = []
    for first, last in stretches:
        rows += [(0, "ann", first, "rock"), (0, "ann", last + 1, "")]
    return told_book(ONE, *rows)


def by_going_through(is_out, day, term, leave):
    """(over, owed, given) up to a day: over and owed days, and (over, given) of each day given back, day by day."""
    over, owed, given = [], [], []
    run = 0
    for each in range(day + 1):
        run = run + 1 if each > 0 and is_out(each) == is_out(each - 1) else 1
        if is_out(each) and run > term:
            over.append(each)
            owed.append(each)
        if not is_out(each) and run > leave and owed:
            given.append((owed.pop(0), each))
    return over, owed, given


class Over(unittest.TestCase):
    def test_behind_the_term(self):
        book = out_on((3, 9))
        for term, days in ((0, [Stretch(3, 9)]), (1, [Stretch(4, 9)]), (6, [Stretch(9, 9)]), (7, []), (8, []), (FAR, [])):
            self.assertEqual(days_over(book, "ann", 20, term), days)
        self.assertIs(type(days_over(book, "ann", 20, 7)), list)

    def test_the_day_asked_within_a_spell_and_ahead_of_all(self):
        book = out_on((3, 9))
        for day in range(5):
            self.assertEqual(days_over(book, "ann", day, 2), [])
        for day, days in ((5, [Stretch(5, 5)]), (8, [Stretch(5, 8)]), (9, [Stretch(5, 9)]), (10, [Stretch(5, 9)])):
            self.assertEqual(days_over(book, "ann", day, 2), days)
        self.assertEqual([days_over(book, "ann", day, 0) for day in (2, 3)], [[], [Stretch(3, 3)]])

    def test_each_spell_has_a_term_of_its_own(self):
        book = out_on((3, 9), (11, 12), (20, 26))
        self.assertEqual(days_over(book, "ann", 30, 3), [Stretch(6, 9), Stretch(23, 26)])
        self.assertEqual(days_over(book, "ann", 30, 1), [Stretch(4, 9), Stretch(12, 12), Stretch(21, 26)])
        self.assertEqual(days_over(book, "ann", 30, 0), [Stretch(3, 9), Stretch(11, 12), Stretch(20, 26)])

    def test_a_spell_over_several_lights(self):
        moves = {3: "rock", 5: "reef", 6: "rock", 9: "isle", 12: ""}
        book = told_book(ONE, *[(0, "ann", day, place) for day, place in moves.items()])
        self.assertEqual(days_over(book, "ann", 20, 4), [Stretch(7, 11)])

    def test_a_spell_that_begins_on_day_0_and_goes_on(self):
        book = told_book(ONE, (0, "ann", 0, "rock"))
        self.assertEqual(days_over(book, "ann", 9, 4), [Stretch(4, 9)])
        self.assertEqual(days_over(book, "ann", 0, 0), [Stretch(0, 0)])
        self.assertEqual(days_over(book, "ann", FAR, FAR - 1), [Stretch(FAR - 1, FAR)])
        self.assertEqual(days_over(book, "ann", FAR, FAR), [Stretch(FAR, FAR)])
        self.assertEqual(days_over(book, "ann", FAR, FAR + 1), [])

    def test_without_spells_out(self):
        for book in (Book(ONE), told_book(ONE, (0, "ann", 3, ""))):
            self.assertEqual(days_over(book, "ann", FAR, 0), [])

    def test_as_known(self):
        book = told_book(ONE, (2, "ann", 3, "rock"), (4, "ann", 6, ""), (6, "ann", 3, None), (6, "ann", 5, "reef"))
        for known, days in ((1, []), (2, [Stretch(4, 9)]), (3, [Stretch(4, 9)]), (4, [Stretch(4, 5)]), (6, []), (None, [])):
            self.assertEqual(days_over(book, "ann", 9, 1, known), days)
            self.assertEqual(days_over(known=known, term=1, day=9, keeper="ann", book=book), days)


class OwedAndGiven(unittest.TestCase):
    def check(self, book, day, term, leave, owed, given):
        self.assertEqual(days_owed(book, "ann", day, term, leave), owed)
        self.assertEqual(days_given(book, "ann", day, term, leave), given)

    def test_the_example_of_the_document(self):
        # Behind a term of 3, 10 to 12 are over; behind leaves of 7, 20 and 21 give back, and, after a day out, 30 and on.
        book = out_on((7, 12), (22, 22))
        self.assertEqual(days_over(book, "ann", 40, 3), [Stretch(10, 12)])
        self.check(book, 40, 3, 7, [], [(10, 20, 2), (12, 30, 1)])
        self.check(book, 29, 3, 7, [Stretch(12, 12)], [(10, 20, 2)])

    def test_leaves(self):
        book = out_on((3, 9))
        for leave, owed, given in (
            (0, [], [(5, 10, 5)]), (1, [], [(5, 11, 5)]), (6, [], [(5, 16, 5)]), (7, [Stretch(9, 9)], [(5, 17, 4)]),
            (10, [Stretch(6, 9)], [(5, 20, 1)]), (11, [Stretch(5, 9)], []), (FAR, [Stretch(5, 9)], []),
        ):
            self.check(book, 20, 2, leave, owed, given)

    def test_leave_is_0_where_it_is_left_out(self):
        book = out_on((3, 9))
        self.assertEqual(days_owed(book, "ann", 12, 2), [Stretch(8, 9)])
        self.assertEqual(days_given(book, "ann", 12, 2), [(5, 10, 3)])
        self.assertEqual(days_owed(book, "ann", 12, 2), days_owed(book, "ann", 12, 2, 0, None))

    def test_up_to_a_day(self):
        book = out_on((3, 9))
        for day, owed, given in (
            (0, [], []), (4, [], []), (5, [Stretch(5, 5)], []), (9, [Stretch(5, 9)], []), (11, [Stretch(5, 9)], []),
            (12, [Stretch(6, 9)], [(5, 12, 1)]), (15, [Stretch(9, 9)], [(5, 12, 4)]), (16, [], [(5, 12, 5)]), (17, [], [(5, 12, 5)]),
            (FAR, [], [(5, 12, 5)]),
        ):
            self.check(book, day, 2, 2, owed, given)

    def test_never_ahead(self):
        # The days ashore from day 0 on give nothing back of what is over later.
        book = out_on((30, 39))
        self.check(book, 39, 5, 0, [Stretch(35, 39)], [])
        self.check(book, 41, 5, 0, [Stretch(37, 39)], [(35, 40, 2)])
        self.check(book, 60, 5, 0, [], [(35, 40, 5)])

    def test_the_oldest_first(self):
        book = out_on((2, 4), (6, 9), (12, 13), (15, 15))
        # Over are 2 to 4, 6 to 9, 12, 13, 15; free are 5, 10, 11, 14, and from 16 on.
        self.check(book, 5, 0, 0, [Stretch(3, 4)], [(2, 5, 1)])
        self.check(book, 11, 0, 0, [Stretch(6, 9)], [(2, 5, 1), (3, 10, 2)])
        self.check(book, 15, 0, 0, [Stretch(7, 9), Stretch(12, 13), Stretch(15, 15)], [(2, 5, 1), (3, 10, 2), (6, 14, 1)])
        self.check(book, 19, 0, 0, [Stretch(13, 13), Stretch(15, 15)], [(2, 5, 1), (3, 10, 2), (6, 14, 1), (7, 16, 3), (12, 19, 1)])
        self.check(book, 99, 0, 0, [], [(2, 5, 1), (3, 10, 2), (6, 14, 1), (7, 16, 3), (12, 19, 2), (15, 21, 1)])

    def test_spells_without_days_over(self):
        self.check(Book(ONE), FAR, 0, 0, [], [])
        self.check(out_on((3, 9)), FAR, 7, 0, [], [])

    def test_a_move_from_light_to_light_is_no_leave(self):
        book = told_book(ONE, (0, "ann", 3, "rock"), (0, "ann", 6, "reef"), (0, "ann", 9, ""), (0, "ann", 11, ""))
        self.check(book, 10, 2, 0, [Stretch(7, 8)], [(5, 9, 2)])
        # Told to go ashore when ashore: the leave goes on.
        self.check(book, 12, 2, 3, [Stretch(6, 8)], [(5, 12, 1)])

    def test_far(self):
        book = told_book(ONE, (0, "ann", FAR, "rock"), (0, "ann", 3 * FAR, ""), (0, "ann", 5 * FAR, "reef"))
        self.assertEqual(days_over(book, "ann", 6 * FAR, FAR), [Stretch(2 * FAR, 3 * FAR - 1), Stretch(6 * FAR, 6 * FAR)])
        self.check(book, 4 * FAR - 1, FAR, 0, [], [(2 * FAR, 3 * FAR, FAR)])
        self.check(book, 4 * FAR - 2, FAR, 0, [Stretch(3 * FAR - 1, 3 * FAR - 1)], [(2 * FAR, 3 * FAR, FAR - 1)])
        self.check(book, 6 * FAR, FAR, FAR + 1, [Stretch(3 * FAR - 1, 3 * FAR - 1), Stretch(6 * FAR, 6 * FAR)],
                   [(2 * FAR, 4 * FAR + 1, FAR - 1)])

    def test_as_known(self):
        book = told_book(ONE, (2, "ann", 3, "rock"), (4, "ann", 8, ""), (6, "ann", 6, ""))
        for known, owed, given in (
            (1, [], []), (2, [Stretch(5, 9)], []), (4, [Stretch(7, 7)], [(5, 8, 2)]), (5, [Stretch(7, 7)], [(5, 8, 2)]),
            (6, [], [(5, 6, 1)]), (None, [], [(5, 6, 1)]),
        ):
            self.assertEqual(days_owed(book, "ann", 9, 2, 0, known), owed)
            self.assertEqual(days_owed(known=known, leave=0, term=2, day=9, keeper="ann", book=book), owed)
            self.assertEqual(days_given(book, "ann", 9, 2, 0, known), given)
            self.assertEqual(days_given(known=known, leave=0, term=2, day=9, keeper="ann", book=book), given)


class ByGoingThrough(unittest.TestCase):
    def test_small_books_day_by_day(self):
        dice = random.Random(33)
        for number in range(40):
            plain = some_plain(dice, ONE, most=14, days=16)
            book = plain.book()
            for known in dice.sample(knowns_of(plain), 2):
                places = [plain.where("ann", day, known) for day in range(25)]
                for term in range(4):
                    for leave in range(4):
                        for day in range(25):
                            told = by_going_through(lambda each: places[each] != "", day, term, leave)
                            self.check(book, known, day, term, leave, told)

    def check(self, book, known, day, term, leave, told):
        over, owed, given = told
        days = days_over(book, "ann", day, term, known)
        still = days_owed(book, "ann", day, term, leave, known)
        back = days_given(book, "ann", day, term, leave, known)
        self.assertEqual((days_of(days, 30), days_of(still, 30)), (over, owed))
        self.assertEqual((days, still), (days_in(days), days_in(still)))
        self.assertEqual([(first + each, on + each) for first, on, many in back for each in range(many)], given)
        for (first, on, many), (later, later_on, later_many) in zip(back, back[1:]):
            self.assertFalse(first + many == later and on + many == later_on)
        # The days over are just those owed and those given, each once.
        given_days = [Stretch(first, first + many - 1) for first, on, many in back]
        self.assertEqual(only_days(days, given_days), still)
        self.assertEqual(sorted(owed + [first for first, on in given]), over)

    def test_owed_till_the_day_that_gives_it_back(self):
        book = out_on((2, 4), (6, 9), (12, 13), (15, 15))
        for over, on, many in days_given(book, "ann", 99, 1, 1):
            for each in range(many):
                owed_on = [day for day in range(99) if over + each in days_of(days_owed(book, "ann", day, 1, 1), 99)]
                self.assertEqual(owed_on, list(range(over + each, on + each)))


class Refused(unittest.TestCase):
    def setUp(self):
        self.book = told_book(RANKS, (1, "ann", 2, "rock"))

    def check(self, error, **handed):
        goods = {"book": self.book, "keeper": "ann", "day": 3, "term": 1, "leave": 1, "known": 1} | handed
        without_leave = {name: thing for name, thing in goods.items() if name != "leave"}
        asks = [(days_owed, goods), (days_given, goods)]
        if set(handed) != {"leave"}:
            asks.append((days_over, without_leave))
        for ask, asked in asks:
            with self.subTest(ask.__name__, **handed), self.assertRaises(error):
                ask(**asked)
            with self.subTest(ask.__name__, **handed), self.assertRaises(error):
                ask(*asked.values())

    def test_no_keeper(self):
        for bad in (*NO_NAMES, "dan", "rock"):
            self.check(NoKeeper, keeper=bad)
            self.check(NoKeeper, keeper=bad, day=-1)
            self.check(NoKeeper, keeper=bad, known=-1)
            self.check(NoKeeper, keeper=bad, term=-1)
            self.check(NoKeeper, keeper=bad, day=None, term=None, leave=None, known=True)

    def test_no_day(self):
        for bad in NO_DAYS:
            self.check(NoDay, day=bad)
            self.check(NoDay, day=bad, known=-1)
            self.check(NoDay, day=bad, term=-1, leave=-1)
        for bad in NO_KNOWNS:
            self.check(NoDay, known=bad)
            self.check(NoDay, known=bad, term=-1)
            self.check(NoDay, known=bad, term=None, leave=None)

    def test_no_number(self):
        for bad in NO_DAYS:
            self.check(NoNumber, term=bad)
            self.check(NoNumber, leave=bad)
            self.check(NoNumber, term=bad, leave=bad)

    def test_nothing_changes(self):
        before = state(self.book)
        self.check(NoNumber, term=-1)
        self.check(NoKeeper, keeper="dan")
        self.assertEqual(state(self.book), before)


class Alike(unittest.TestCase):
    def setUp(self):
        self.book = told_book(ONE, (0, "ann", 3, "rock"), (1, "ann", 8, ""))
        self.asks = (
            lambda: days_over(self.book, "ann", 9, 1), lambda: days_owed(self.book, "ann", 9, 1),
            lambda: days_given(self.book, "ann", 9, 1),
        )

    def test_asked_again_the_same_is_told(self):
        before = state(self.book)
        for ask in self.asks:
            told, kept = ask(), ask()
            self.assertEqual(told, kept)
            self.assertIs(type(told), list)
            told.clear()
            self.assertEqual(ask(), kept)
        self.assertEqual(state(self.book), before)
        self.assertEqual({type(row) for row in self.asks[2]()}, {tuple})

    def test_a_book_told_on_is_looked_at_as_it_is_then(self):
        self.assertEqual([ask() for ask in self.asks], [[Stretch(4, 7)], [Stretch(6, 7)], [(4, 8, 2)]])
        self.book.tell(1, "ann", 7, "")
        self.assertEqual([ask() for ask in self.asks], [[Stretch(4, 6)], [], [(4, 7, 3)]])


if __name__ == "__main__":
    unittest.main()
