"""Stores that last [2, 4, 32, 33, 34]."""

import random
import unittest

from books_of import FAR, NO_DAYS, NO_KNOWNS, NO_NAMES, RANKS, knowns_of, some_plain, state, told_book
from lightturns.boats import Boat, fewest
from lightturns.book import Book
from lightturns.errors import NoDay, NoName, NoNumber, Small
from lightturns.stores import heads, landing, left_over, unfed, weight_wanted
from lightturns.stretches import Stretch

MANY = 40


def lefts_by_going_through(plain, light, ration, known):
    """What is left at each day's end, for many days, day by day."""
    left = 0
    told = []
    for day in range(MANY):
        left += plain.landed(light, day, known) - ration * plain.heads(light, day, known)
        told.append(left)
    return told


class Heads(unittest.TestCase):
    def test_of_a_light_that_nobody_is_at(self):
        for book in (Book({}), Book(RANKS), told_book(RANKS, (1, "ann", 0, "rock")), told_book(RANKS, (1, "reef", 3, 9))):
            self.assertEqual(heads(book, "reef"), [(0, Stretch(0))])

    def test_from_day_0_on_the_last_stretch_for_ever(self):
        book = told_book(
            RANKS, (1, "ann", 3, "rock"), (1, "bob", 5, "rock"), (1, "cat", 5, "rock"), (1, "ann", 8, ""), (1, "bob", 9, "reef"),
        )
        told = heads(book, "rock")
        self.assertEqual(told, [(0, Stretch(0, 2)), (1, Stretch(3, 4)), (3, Stretch(5, 7)), (2, Stretch(8, 8)), (1, Stretch(9))])
        self.assertEqual(heads(book, "reef"), [(0, Stretch(0, 8)), (1, Stretch(9))])
        self.assertIs(type(told), list)
        self.assertEqual({type(row) for row in told}, {tuple})

    def test_on_day_0(self):
        book = told_book(RANKS, (1, "ann", 0, "rock"), (1, "bob", 0, "rock"), (1, "bob", 1, ""))
        self.assertEqual(heads(book, "rock"), [(2, Stretch(0, 0)), (1, Stretch(1))])
        self.assertEqual(heads(told_book(RANKS, (1, "ann", 0, "rock")), "rock"), [(1, Stretch(0))])

    def test_no_two_that_follow_one_another_alike(self):
        book = told_book(
            RANKS, (1, "ann", 3, "rock"), (1, "ann", 6, ""), (1, "bob", 6, "rock"), (1, "bob", 8, "rock"), (1, "bob", 9, ""),
            (1, "cat", 9, "reef"),
        )
        self.assertEqual(heads(book, "rock"), [(0, Stretch(0, 2)), (1, Stretch(3, 8)), (0, Stretch(9))])

    def test_as_known(self):
        book = told_book(RANKS, (2, "ann", 3, "rock"), (4, "bob", 3, "rock"), (6, "ann", 3, None))
        for known, many in ((2, 1), (3, 1), (4, 2), (5, 2), (6, 1), (FAR, 1), (None, 1)):
            self.assertEqual(heads(book, "rock", known), [(0, Stretch(0, 2)), (many, Stretch(3))])
            self.assertEqual(heads(known=known, light="rock", book=book), [(0, Stretch(0, 2)), (many, Stretch(3))])
        self.assertEqual([heads(book, "rock", known) for known in (0, 1)], [[(0, Stretch(0))]] * 2)

    def test_far(self):
        book = told_book(RANKS, (1, "ann", FAR, "rock"), (1, "bob", FAR + 5, "rock"), (1, "ann", 2 * FAR, ""))
        self.assertEqual(heads(book, "rock"), [
            (0, Stretch(0, FAR - 1)), (1, Stretch(FAR, FAR + 4)), (2, Stretch(FAR + 5, 2 * FAR - 1)), (1, Stretch(2 * FAR)),
        ])

    def test_by_a_plain_going_through(self):
        dice = random.Random(34)
        for number in range(100):
            plain = some_plain(dice)
            book = plain.book()
            for known in knowns_of(plain):
                told = heads(book, "rock", known)
                self.assertEqual((told[0][1].first(), told[-1][1].last()), (0, None))
                for (many, stretch), (after, later) in zip(told, told[1:]):
                    self.assertNotEqual(many, after)
                    self.assertEqual(stretch.last() + 1, later.first())
                for day in range(12):
                    self.assertEqual([many for many, stretch in told if stretch.has(day)], [plain.heads("rock", day, known)])

    def test_refused(self):
        book = told_book(RANKS, (1, "ann", 2, "rock"))
        for bad in NO_NAMES:
            for known in (None, 1, -1, True):
                with self.subTest(bad), self.assertRaises(NoName):
                    heads(book, bad, known)
        for bad in NO_KNOWNS:
            for light in ("rock", "never"):
                with self.subTest(bad), self.assertRaises(NoDay):
                    heads(book, light, bad)
            with self.subTest(bad), self.assertRaises(NoDay):
                heads(Book({}), "rock", bad)


class Left(unittest.TestCase):
    def setUp(self):
        # One head from 3 on, two from 6 on, none from 9 on.
        self.book = told_book(
            RANKS, (1, "ann", 3, "rock"), (1, "bob", 6, "rock"), (1, "ann", 9, ""), (1, "bob", 9, ""), (1, "rock", 2, 10),
            (1, "rock", 7, 4), (1, "rock", 11, 5), (1, "reef", 4, 90),
        )

    def test_left(self):
        self.assertEqual([left_over(self.book, "rock", 2, day) for day in range(13)], [0, 0, 10, 8, 6, 4, 0, 0, -4, -4, -4, 1, 1])
        self.assertEqual([left_over(self.book, "rock", 1, day) for day in range(13)], [0, 0, 10, 9, 8, 7, 5, 7, 5, 5, 5, 10, 10])
        self.assertEqual([left_over(self.book, "reef", 1, day) for day in (3, 4, 5, FAR)], [0, 90, 90, 90])
        self.assertEqual([left_over(self.book, "never", 1, day) for day in (0, FAR)], [0, 0])

    def test_landed_on_the_day_itself_counts_and_behind_it_does_not(self):
        book = told_book(RANKS, (1, "rock", 3, 5), (1, "rock", 4, 7))
        self.assertEqual([left_over(book, "rock", 1, day) for day in (2, 3, 4)], [0, 5, 12])

    def test_far(self):
        book = told_book(RANKS, (1, "ann", 5, "rock"), (1, "rock", FAR, FAR))
        self.assertEqual(left_over(book, "rock", 3, FAR - 1), -3 * (FAR - 5))
        self.assertEqual(left_over(book, "rock", 3, FAR), FAR - 3 * (FAR - 4))
        self.assertEqual(left_over(book, "rock", FAR, 5 * FAR), FAR - FAR * (5 * FAR - 4))

    def test_as_known(self):
        book = told_book(RANKS, (2, "ann", 3, "rock"), (3, "rock", 3, 20), (5, "rock", 3, 2), (6, "ann", 5, ""))
        for known, left in ((1, 0), (2, -4), (3, 16), (4, 16), (5, -2), (6, 0), (None, 0)):
            self.assertEqual(left_over(book, "rock", 1, 6, known), left)
            self.assertEqual(left_over(known=known, day=6, ration=1, light="rock", book=book), left)

    def test_by_a_plain_going_through(self):
        dice = random.Random(35)
        for number in range(80):
            plain = some_plain(dice)
            book = plain.book()
            ration = dice.randrange(1, 4)
            for known in dice.sample(knowns_of(plain), 2):
                lefts = lefts_by_going_through(plain, "rock", ration, known)
                self.assertEqual([left_over(book, "rock", ration, day, known) for day in range(MANY)], lefts)


class Unfed(unittest.TestCase):
    def test_none(self):
        for book in (
            Book({}), Book(RANKS), told_book(RANKS, (1, "rock", 3, 9)), told_book(RANKS, (1, "ann", 3, "reef")),
            told_book(RANKS, (1, "ann", 3, "rock"), (1, "ann", 7, ""), (1, "rock", 3, 4)),
            told_book(RANKS, (1, "ann", 3, "rock"), (1, "ann", 7, ""), (1, "rock", 3, 1), (1, "rock", 4, 2), (1, "rock", 6, 1)),
        ):
            self.assertIsNone(unfed(book, "rock", 1))

    def test_the_first_day_and_what_is_lacking(self):
        book = told_book(RANKS, (1, "ann", 3, "rock"), (1, "bob", 5, "rock"), (1, "rock", 0, 10))
        self.assertEqual([unfed(book, "rock", ration) for ration in range(1, 7)], [(9, 2), (6, 2), (5, 2), (5, 6), (5, 10), (4, 2)])
        self.assertEqual([unfed(book, "rock", ration) for ration in (10, 11, 12, FAR)], [(4, 10), (3, 1), (3, 2), (3, FAR - 10)])

    def test_without_stores(self):
        self.assertEqual(unfed(told_book(RANKS, (1, "ann", 0, "rock")), "rock", 3), (0, 3))
        self.assertEqual(unfed(told_book(RANKS, (1, "ann", 4, "rock"), (1, "bob", 4, "rock")), "rock", 3), (4, 6))

    def test_a_landing_that_comes_a_day_too_late(self):
        for day, told in ((4, None), (5, None), (6, (5, 1))):
            book = told_book(RANKS, (1, "ann", 3, "rock"), (1, "ann", 9, ""), (1, "rock", 3, 2), (1, "rock", day, 99))
            self.assertEqual(unfed(book, "rock", 1), told)

    def test_landed_on_the_day_that_would_be_unfed(self):
        book = told_book(RANKS, (1, "ann", 3, "rock"), (1, "rock", 3, 2), (1, "rock", 5, 1))
        self.assertEqual(unfed(book, "rock", 1), (6, 1))

    def test_a_last_head_that_stays_for_ever(self):
        book = told_book(RANKS, (1, "ann", 3, "rock"), (1, "rock", 3, FAR))
        self.assertEqual(unfed(book, "rock", 1), (FAR + 3, 1))
        self.assertEqual(unfed(book, "rock", 7), (3 + FAR // 7, 7 - FAR % 7))
        self.assertEqual(unfed(book, "rock", FAR), (4, FAR))
        self.assertEqual(unfed(book, "rock", FAR + 1), (3, 1))

    def test_the_first_of_several(self):
        book = told_book(RANKS, (1, "ann", 3, "rock"), (1, "ann", 4, ""), (1, "rock", 6, 50), (1, "ann", 8, "rock"))
        self.assertEqual(unfed(book, "rock", 2), (3, 2))

    def test_as_known(self):
        book = told_book(RANKS, (2, "ann", 3, "rock"), (3, "rock", 3, 4), (5, "rock", 3, 2), (6, "ann", 5, ""))
        for known, told in ((1, None), (2, (3, 1)), (3, (7, 1)), (4, (7, 1)), (5, (5, 1)), (6, None), (None, None)):
            self.assertEqual(unfed(book, "rock", 1, known), told)
            self.assertEqual(unfed(known=known, ration=1, light="rock", book=book), told)

    def test_by_a_plain_going_through(self):
        dice = random.Random(36)
        for number in range(150):
            plain = some_plain(dice)
            book = plain.book()
            for ration in (1, 2):
                for known in dice.sample(knowns_of(plain), 2):
                    lefts = lefts_by_going_through(plain, "rock", ration, known)
                    below = [(day, -left) for day, left in enumerate(lefts) if left < 0]
                    told = unfed(book, "rock", ration, known)
                    if below:
                        self.assertEqual(told, below[0])
                    else:
                        self.assertTrue(told is None or told[0] >= MANY)


class Wanted(unittest.TestCase):
    def test_nothing(self):
        for book in (Book({}), Book(RANKS), told_book(RANKS, (1, "ann", 3, "rock"), (1, "rock", 3, 7))):
            self.assertEqual(weight_wanted(book, "rock", 1, 9), (0, None))
        self.assertEqual(weight_wanted(told_book(RANKS, (1, "ann", 3, "rock")), "rock", 1, 2), (0, None))

    def test_the_least_weight_and_the_first_day_with_nothing_left(self):
        book = told_book(RANKS, (1, "ann", 3, "rock"), (1, "ann", 6, ""), (1, "rock", 8, 50), (1, "ann", 9, "rock"))
        for till, told in ((2, (0, None)), (3, (2, 3)), (4, (4, 4)), (5, (6, 5)), (6, (6, 5)), (7, (6, 5)), (8, (6, 5)), (30, (6, 5)),
                           (33, (6, 5)), (34, (8, 34)), (FAR, (2 * (FAR - 5) - 50, FAR))):
            self.assertEqual(weight_wanted(book, "rock", 2, till), told)

    def test_of_two_days_as_low_the_first(self):
        # Twice there's a lack of three, with a landing between.
        book = told_book(RANKS, (1, "ann", 2, "rock"), (1, "ann", 5, ""), (1, "rock", 6, 3), (1, "ann", 7, "rock"), (1, "ann", 10, ""))
        self.assertEqual(weight_wanted(book, "rock", 1, 40), (3, 4))
        self.assertEqual(weight_wanted(book, "rock", 1, 4), (3, 4))

    def test_nothing_left_on_a_day_that_nobody_eats(self):
        # What is left on day 2, when all is eaten, stays so on the days behind it.
        book = told_book(RANKS, (1, "ann", 0, "rock"), (1, "ann", 3, ""), (1, "rock", 5, 0))
        self.assertEqual(weight_wanted(book, "rock", 4, 9), (12, 2))

    def test_far(self):
        book = told_book(RANKS, (1, "ann", FAR, "rock"), (1, "ann", 3 * FAR, ""), (1, "rock", 2 * FAR, FAR // 2))
        self.assertEqual(weight_wanted(book, "rock", 1, 5 * FAR), (2 * FAR - FAR // 2, 3 * FAR - 1))
        self.assertEqual(weight_wanted(book, "rock", FAR, 2 * FAR - 1), (FAR * FAR, 2 * FAR - 1))

    def test_as_known(self):
        book = told_book(RANKS, (2, "ann", 3, "rock"), (3, "rock", 3, 4), (5, "rock", 3, 2), (6, "ann", 5, ""))
        for known, told in ((1, (0, None)), (2, (7, 9)), (3, (3, 9)), (4, (3, 9)), (5, (5, 9)), (6, (0, None)), (None, (0, None))):
            self.assertEqual(weight_wanted(book, "rock", 1, 9, known), told)
            self.assertEqual(weight_wanted(known=known, till=9, ration=1, light="rock", book=book), told)

    def test_by_landing_it_beside(self):
        dice = random.Random(37)
        for number in range(60):
            plain = some_plain(dice)
            book = plain.book()
            for till in range(14):
                weight, day = weight_wanted(book, "rock", 2, till)
                lefts = lefts_by_going_through(plain, "rock", 2, None)[:till + 1]
                self.assertEqual(weight, max(0, -min(lefts)))
                self.assertEqual(day, lefts.index(-weight) if weight > 0 else None)
                if weight > 0:
                    self.check_landed_beside(book, weight, day, till)

    def check_landed_beside(self, book, weight, day, till):
        last, on_day_0 = book.last_known() or 0, book.landed("rock", 0)
        enough, lacking = book.twin(), book.twin()
        enough.land(last, "rock", 0, on_day_0 + weight)
        lacking.land(last, "rock", 0, on_day_0 + weight - 1)
        first = unfed(enough, "rock", 2)
        self.assertTrue(first is None or first[0] > till)
        self.assertEqual(left_over(enough, "rock", 2, day), 0)
        self.assertEqual(unfed(lacking, "rock", 2), (day, 1))


class RefusedOfStores(unittest.TestCase):
    def setUp(self):
        self.book = told_book(RANKS, (1, "ann", 2, "rock"))

    def check(self, error, **handed):
        goods = {"book": self.book, "light": "rock", "ration": 1, "day": 3, "known": 1} | handed
        tills = {("till" if name == "day" else name): thing for name, thing in goods.items()}
        days_less = {name: thing for name, thing in goods.items() if name != "day"}
        asks = [(left_over, goods), (weight_wanted, tills)]
        if set(handed) != {"day"}:
            asks.append((unfed, days_less))
        for ask, asked in asks:
            with self.subTest(ask.__name__, **handed), self.assertRaises(error):
                ask(**asked)
            with self.subTest(ask.__name__, **handed), self.assertRaises(error):
                ask(*asked.values())

    def test_no_name(self):
        for bad in NO_NAMES:
            self.check(NoName, light=bad)
            self.check(NoName, light=bad, ration=0)
            self.check(NoName, light=bad, day=-1)
            self.check(NoName, light=bad, known=-1)
            self.check(NoName, light=bad, ration=None, day=None, known=True)

    def test_no_number(self):
        for bad in (0, *NO_DAYS):
            self.check(NoNumber, ration=bad)
            self.check(NoNumber, ration=bad, day=-1)
            self.check(NoNumber, ration=bad, known=-1)
            self.check(NoNumber, ration=bad, day=None, known=True)

    def test_no_day(self):
        for bad in NO_DAYS:
            self.check(NoDay, day=bad)
        for bad in NO_KNOWNS:
            self.check(NoDay, known=bad)
            self.check(NoDay, known=bad, light="never")
            self.check(NoDay, day=-1, known=bad)
            self.check(NoDay, known=bad, book=Book({}))


class Landing(unittest.TestCase):
    def setUp(self):
        self.boat = Boat(2, 200, 80)
        self.book = told_book(
            {"ann": 1, "bob": 2, "cat": 3, "dan": 4}, (1, "ann", 0, "rock"), (1, "bob", 0, "rock"), (1, "cat", 5, "rock"),
            (1, "dan", 5, "rock"), (1, "ann", 5, ""), (1, "rock", 5, 250), (1, "reef", 5, 9), (1, "rock", 6, 30),
        )

    def test_landing(self):
        for day, told in ((0, (2, 0, 0, 1)), (1, (0, 0, 0, 0)), (5, (2, 250, 1, 3)), (6, (0, 30, 0, 1)), (7, (0, 0, 0, 0))):
            self.assertEqual(landing(self.book, self.boat, "rock", day), told)
        self.assertEqual(landing(self.book, self.boat, "reef", 5), (0, 9, 0, 1))
        self.assertEqual(landing(self.book, self.boat, "never", FAR), (0, 0, 0, 0))
        self.assertIs(type(landing(self.book, self.boat, "rock", 0)), tuple)

    def test_men_who_went_alone(self):
        book = told_book(dict.fromkeys(("ann", "bob", "cat"), 1), *[(1, name, 0, "rock") for name in ("ann", "bob", "cat")])
        for name in ("ann", "bob", "cat"):
            book.tell(1, name, 4, "reef")
        self.assertEqual(landing(book, self.boat, "rock", 4), (0, 0, 3, 2))
        self.assertEqual(landing(book, self.boat, "reef", 4), (3, 0, 0, 2))

    def test_small(self):
        small = Boat(2, 79, 80)
        for day in (0, 5):
            with self.assertRaises(Small):
                landing(self.book, small, "rock", day)
        self.assertEqual(landing(self.book, small, "rock", 6), (0, 30, 0, 1))
        self.book.tell(1, "bob", 7, "")
        with self.assertRaises(Small):
            landing(self.book, small, "rock", 7)

    def test_as_known(self):
        self.book.land(4, "rock", 5, 40)
        self.book.tell(5, "dan", 5, None)
        self.book.land(6, "rock", 5, 0)
        for known, told in ((0, (0, 0, 0, 0)), (1, (2, 250, 1, 3)), (3, (2, 250, 1, 3)), (4, (2, 40, 1, 1)), (5, (1, 40, 1, 1)),
                            (6, (1, 0, 1, 1)), (None, (1, 0, 1, 1))):
            self.assertEqual(landing(self.book, self.boat, "rock", 5, known), told)
            self.assertEqual(landing(known=known, day=5, light="rock", boat=self.boat, book=self.book), told)

    def test_far(self):
        book = told_book(RANKS, (1, "ann", FAR, "rock"), (1, "rock", FAR, FAR))
        self.assertEqual(landing(book, self.boat, "rock", FAR), (1, FAR, 0, fewest(self.boat, 1, 0, {"oil": FAR})))

    def test_by_a_plain_going_through(self):
        dice = random.Random(38)
        for number in range(60):
            plain = some_plain(dice)
            book, boat = plain.book(), Boat(dice.randrange(1, 3), dice.randrange(4, 9), dice.randrange(1, 5))
            for day in range(11):
                now = [name for name in RANKS if plain.where(name, day) == "rock"]
                before = [name for name in RANKS if day > 0 and plain.where(name, day - 1) == "rock"]
                out, back = len(set(now) - set(before)), len(set(before) - set(now))
                weight = plain.landed("rock", day)
                goings = fewest(boat, out, back, {"oil": weight} if weight else None)
                self.assertEqual(landing(book, boat, "rock", day), (out, weight, back, goings))

    def test_refused(self):
        small = Boat(2, 79, 80)
        for bad in NO_NAMES:
            for day, known in ((5, None), (5, 1), (-1, None), (5, -1), (None, True)):
                with self.subTest(bad), self.assertRaises(NoName):
                    landing(self.book, small, bad, day, known)
        for bad in NO_DAYS:
            for known in (None, -1):
                with self.subTest(bad), self.assertRaises(NoDay):
                    landing(self.book, small, "rock", bad, known)
        for bad in NO_KNOWNS:
            for day in (0, 5):
                with self.subTest(bad), self.assertRaises(NoDay):
                    landing(self.book, small, "rock", day, bad)


class Alike(unittest.TestCase):
    def test_asked_again_the_same_is_told_of_the_book_as_it_is(self):
        book = told_book(RANKS, (1, "ann", 3, "rock"), (1, "rock", 3, 5))
        asks = (
            lambda: heads(book, "rock"), lambda: left_over(book, "rock", 2, 9), lambda: unfed(book, "rock", 2),
            lambda: weight_wanted(book, "rock", 2, 9), lambda: landing(book, Boat(2, 200, 80), "rock", 3),
        )
        before, told = state(book), [ask() for ask in asks]
        self.assertEqual(told, [[(0, Stretch(0, 2)), (1, Stretch(3))], -9, (5, 1), (9, 9), (1, 5, 0, 1)])
        heads(book, "rock").clear()
        self.assertEqual([ask() for ask in asks], told)
        self.assertEqual(state(book), before)
        book.tell(1, "ann", 8, "")
        book.land(1, "rock", 3, 400)
        self.assertEqual([ask() for ask in asks], [
            [(0, Stretch(0, 2)), (1, Stretch(3, 7)), (0, Stretch(8))], 390, None, (0, None), (1, 400, 0, 3),
        ])


if __name__ == "__main__":
    unittest.main()
