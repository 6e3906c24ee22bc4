"""The days of lists of stretches [4, 7]."""

import itertools
import random
import unittest

from lightturns.errors import NoStretches
from lightturns.stretches import Stretch, both_days, days_in, either_days, many_days, only_days

FAR = 10**60 - 1
OF_TWO = (either_days, both_days, only_days)


def stretches(*rows):
    """(3, 7) and 9, say, as [Stretch(3, 7), Stretch(9)]."""
    return [Stretch(*row) if isinstance(row, tuple) else Stretch(row) for row in rows]


def days_before(end, some):
    """The days before end, gone through one by one: the plain words of [7]."""
    return {day for day in range(end) if any(each.has(day) for each in some)}


class DaysIn(unittest.TestCase):
    def check(self, handed, told):
        for some in (list(handed), tuple(handed)):
            self.assertEqual(days_in(some), told)
            self.assertEqual(days_in(some=some), told)
            self.assertIs(type(days_in(some)), list)

    def test_none(self):
        self.check([], [])

    def test_one(self):
        self.check(stretches((3, 7)), stretches((3, 7)))
        self.check(stretches((0, 0)), stretches((0, 0)))
        self.check(stretches(3), stretches(3))

    def test_the_same_twice(self):
        self.check(stretches((3, 7), (3, 7)), stretches((3, 7)))
        self.check(stretches(3, 3), stretches(3))
        one = Stretch(3, 7)
        self.check([one, one, one], [one])

    def test_overlapping(self):
        self.check(stretches((3, 7), (5, 9)), stretches((3, 9)))
        self.check(stretches((5, 9), (3, 7)), stretches((3, 9)))
        self.check(stretches((3, 7), (7, 9)), stretches((3, 9)))

    def test_touching(self):
        self.check(stretches((3, 7), (8, 9)), stretches((3, 9)))
        self.check(stretches((8, 9), (3, 7)), stretches((3, 9)))
        self.check(stretches((0, 0), (1, 1), (2, 2)), stretches((0, 2)))
        self.check(stretches((3, 7), 8), stretches(3))

    def test_apart(self):
        self.check(stretches((3, 7), (9, 9)), stretches((3, 7), (9, 9)))
        self.check(stretches((9, 9), (3, 7)), stretches((3, 7), (9, 9)))
        self.check(stretches(9, (3, 7), (0, 0)), stretches((0, 0), (3, 7), 9))

    def test_a_day_that_joins_two(self):
        self.check(stretches((3, 7), (9, 9), (8, 8)), stretches((3, 9)))

    def test_one_within_another(self):
        self.check(stretches((3, 9), (5, 6)), stretches((3, 9)))
        self.check(stretches((5, 6), (3, 9)), stretches((3, 9)))
        self.check(stretches((3, 9), (3, 5)), stretches((3, 9)))
        self.check(stretches((3, 5), (3, 9)), stretches((3, 9)))
        self.check(stretches((3, 9), (5, 6), (8, 12)), stretches((3, 12)))

    def test_for_ever(self):
        self.check(stretches(3, (5, 9)), stretches(3))
        self.check(stretches(3, 5), stretches(3))
        self.check(stretches((3, 3), 3), stretches(3))
        self.check(stretches(3, (3, 3)), stretches(3))
        self.check(stretches(5, (3, 9)), stretches(3))
        self.check(stretches(5, (0, 3)), stretches((0, 3), 5))

    def test_far(self):
        self.check(stretches((0, FAR - 2), (FAR, FAR)), stretches((0, FAR - 2), (FAR, FAR)))
        self.check(stretches((0, FAR - 1), (FAR, FAR)), stretches((0, FAR)))
        self.check(stretches(FAR, (0, 0)), stretches((0, 0), FAR))


class TwoLists(unittest.TestCase):
    def check(self, some, others, either, both, only):
        for ask, told in zip(OF_TWO, (either, both, only)):
            for one, other in itertools.product((list(some), tuple(some)), (list(others), tuple(others))):
                with self.subTest(ask.__name__, some=one, others=other):
                    self.assertEqual(ask(one, other), told)
                    self.assertEqual(ask(some=one, others=other), told)
                    self.assertEqual(ask(others=other, some=one), told)
                    self.assertIs(type(ask(one, other)), list)

    def test_none(self):
        here = stretches((3, 7), 9)
        self.check([], [], [], [], [])
        self.check(here, [], here, [], here)
        self.check([], here, here, [], [])

    def test_the_same(self):
        here = stretches((3, 7), 9)
        self.check(here, here, here, here, [])
        self.check(stretches((3, 7), (3, 7)), stretches((3, 7)), stretches((3, 7)), stretches((3, 7)), [])

    def test_overlapping(self):
        low, high = stretches((3, 7)), stretches((5, 9))
        self.check(low, high, stretches((3, 9)), stretches((5, 7)), stretches((3, 4)))
        self.check(high, low, stretches((3, 9)), stretches((5, 7)), stretches((8, 9)))

    def test_by_one_day(self):
        low, high = stretches((3, 7)), stretches((7, 9))
        self.check(low, high, stretches((3, 9)), stretches((7, 7)), stretches((3, 6)))
        self.check(high, low, stretches((3, 9)), stretches((7, 7)), stretches((8, 9)))

    def test_touching(self):
        low, high = stretches((3, 7)), stretches((8, 9))
        self.check(low, high, stretches((3, 9)), [], low)
        self.check(high, low, stretches((3, 9)), [], high)

    def test_apart(self):
        low, high = stretches((3, 7)), stretches((9, 9))
        self.check(low, high, low + high, [], low)
        self.check(high, low, low + high, [], high)

    def test_one_within_another(self):
        wide, within = stretches((3, 9)), stretches((5, 6))
        self.check(wide, within, wide, within, stretches((3, 4), (7, 9)))
        self.check(within, wide, wide, within, [])
        self.check(wide, stretches((3, 4)), wide, stretches((3, 4)), stretches((5, 9)))
        self.check(wide, stretches((8, 9)), wide, stretches((8, 9)), stretches((3, 7)))

    def test_from_day_0(self):
        self.check(stretches((0, 5)), stretches((0, 0)), stretches((0, 5)), stretches((0, 0)), stretches((1, 5)))
        self.check(stretches((0, 5)), stretches((1, 1)), stretches((0, 5)), stretches((1, 1)), stretches((0, 0), (2, 5)))

    def test_one_over_many(self):
        many = stretches((1, 2), (4, 5), (7, 8))
        self.check(stretches((2, 7)), many, stretches((1, 8)), stretches((2, 2), (4, 5), (7, 7)), stretches((3, 3), (6, 6)))
        self.check(many, stretches((2, 7)), stretches((1, 8)), stretches((2, 2), (4, 5), (7, 7)), stretches((1, 1), (8, 8)))

    def test_lists_that_are_not_told_so(self):
        some = stretches((6, 8), (1, 3), (4, 5))
        others = stretches((7, 7), (2, 2), (7, 9))
        self.check(some, others, stretches((1, 9)), stretches((2, 2), (7, 8)), stretches((1, 1), (3, 6)))

    def test_for_ever(self):
        self.check(stretches(3), stretches(5), stretches(3), stretches(5), stretches((3, 4)))
        self.check(stretches(5), stretches(3), stretches(3), stretches(5), [])
        self.check(stretches(3), stretches((5, 6)), stretches(3), stretches((5, 6)), stretches((3, 4), 7))
        self.check(stretches((5, 6)), stretches(3), stretches(3), stretches((5, 6)), [])
        self.check(stretches((0, 6)), stretches(3), stretches(0), stretches((3, 6)), stretches((0, 2)))
        self.check(stretches((0, 2)), stretches(3), stretches(0), [], stretches((0, 2)))
        self.check(stretches(0), stretches(0), stretches(0), stretches(0), [])

    def test_far(self):
        half = FAR // 2
        self.check(
            stretches((1, FAR)), stretches((half, half)), stretches((1, FAR)), stretches((half, half)),
            stretches((1, half - 1), (half + 1, FAR)),
        )
        self.check(stretches(0), stretches(FAR), stretches(0), stretches(FAR), stretches((0, FAR - 1)))


class Many(unittest.TestCase):
    def check(self, handed, told):
        for some in (list(handed), tuple(handed)):
            self.assertEqual(many_days(some), told)
            self.assertEqual(many_days(some=some), told)

    def test_none(self):
        self.check([], 0)
        self.assertIs(type(many_days([])), int)

    def test_each_day_once(self):
        self.check(stretches((3, 3)), 1)
        self.check(stretches((3, 7)), 5)
        self.check(stretches((3, 7), (3, 7)), 5)
        self.check(stretches((3, 7), (5, 9)), 7)
        self.check(stretches((3, 7), (8, 9)), 7)
        self.check(stretches((9, 9), (3, 7)), 6)
        self.check(stretches((3, 9), (5, 6)), 7)
        self.check(stretches((0, 0), (2, 2)), 2)

    def test_for_ever(self):
        for handed in (stretches(3), stretches(FAR), stretches(3, (5, 9)), stretches((0, 1), 3), stretches(3, (0, 1))):
            self.check(handed, None)

    def test_far(self):
        self.check(stretches((0, FAR)), FAR + 1)
        self.check(stretches((1, FAR), (0, 5)), FAR + 1)
        self.check(stretches((FAR, FAR), (0, 0)), 2)


class Refused(unittest.TestCase):
    NO_LISTS = (
        None, True, False, 0, 3, "", "3-7", b"", {}, {3: 7}, {Stretch: 1}, set(), Stretch(3, 7), Stretch(3), object(),
        range(0), iter([]),
    )
    NO_STRETCHES = (
        None, True, 3, "", "3-7", (), [], (3, 7), [3, 7], {}, [Stretch(3, 7)], (Stretch(3, 7),), object(), Stretch,
    )

    def things(self):
        yield from self.NO_LISTS
        good = Stretch(3, 7)
        for bad in self.NO_STRETCHES:
            for row in ([bad], [bad, good], [good, bad], [good, bad, good], [Stretch(0), bad]):
                yield row
                yield tuple(row)

    def test_of_one_list(self):
        for thing in self.things():
            for ask in (days_in, many_days):
                with self.subTest(ask.__name__, thing=thing):
                    with self.assertRaises(NoStretches):
                        ask(thing)
                    with self.assertRaises(NoStretches):
                        ask(some=thing)

    def test_of_either_list(self):
        for thing in self.things():
            for ask in OF_TWO:
                with self.subTest(ask.__name__, thing=thing):
                    for good in ([], (), stretches((3, 7)), stretches(0)):
                        with self.assertRaises(NoStretches):
                            ask(thing, good)
                        with self.assertRaises(NoStretches):
                            ask(good, thing)
                        with self.assertRaises(NoStretches):
                            ask(others=thing, some=good)
                    with self.assertRaises(NoStretches):
                        ask(thing, thing)

    def test_a_refusal_changes_nothing(self):
        some, others = stretches((5, 6), (1, 2)), [Stretch(3, 7), 3]
        for ask in OF_TWO:
            with self.assertRaises(NoStretches):
                ask(some, others)
        self.assertEqual(some, stretches((5, 6), (1, 2)))
        self.assertEqual(others, [Stretch(3, 7), 3])
        self.assertEqual(days_in(some), stretches((1, 2), (5, 6)))


class HandedInAndTold(unittest.TestCase):
    def asks(self, some, others):
        """Each of the five, to be asked again and again."""
        return [
            lambda: days_in(some), lambda: either_days(some, others), lambda: both_days(some, others),
            lambda: only_days(some, others), lambda: many_days(some),
        ]

    def test_what_is_handed_in_stays(self):
        some, others = stretches((8, 9), (1, 5), (2, 3)), stretches(7, (0, 3), (0, 3))
        before = (list(some), list(others), [repr(each) for each in some + others])
        for ask in self.asks(some, others):
            ask()
            self.assertTrue(all(one is other for one, other in zip(some + others, before[0] + before[1])))
            self.assertEqual((some, others, [repr(each) for each in some + others]), before)

    def test_asked_again_the_same_is_told(self):
        for ask in self.asks(stretches((8, 9), (1, 5)), stretches(7, (0, 3))):
            self.assertEqual(ask(), ask())

    def test_a_list_changed_behind_a_call(self):
        some, others = stretches((1, 5)), stretches((3, 7))
        asks = self.asks(some, others)
        told = [ask() for ask in asks]
        self.assertEqual(told, [stretches((1, 5)), stretches((1, 7)), stretches((3, 5)), stretches((1, 2)), 5])
        some.append(Stretch(9, 9))
        others[0] = Stretch(5, 9)
        self.assertEqual(told, [stretches((1, 5)), stretches((1, 7)), stretches((3, 5)), stretches((1, 2)), 5])
        self.assertEqual(
            [ask() for ask in asks],
            [stretches((1, 5), (9, 9)), stretches((1, 9)), stretches((5, 5), (9, 9)), stretches((1, 4)), 6],
        )

    def test_told_lists_are_the_askers_own(self):
        for some, others in (
            (stretches((1, 5), (7, 9)), stretches((3, 7))), ([], []), (stretches(1), []), ([], stretches(1)),
            ((), ()), (stretches((3, 7)), stretches((3, 7))),
        ):
            before = (list(some), list(others))
            for ask in self.asks(some, others)[:4]:
                told = ask()
                kept = list(told)
                self.assertIsNot(told, some)
                self.assertIsNot(told, others)
                told.append(Stretch(100))
                told[0] = Stretch(99)
                self.assertEqual(ask(), kept)
                self.assertEqual((list(some), list(others)), before)

    def test_what_was_told_may_be_handed_in_again(self):
        apart = stretches(*[(3 * k, 3 * k) for k in range(100)])
        more = stretches(*[(3 * k + 300, 3 * k + 300) for k in range(100)])
        told = either_days(apart, more)
        self.assertEqual(len(told), 200)
        self.assertEqual(days_in(told), told)
        self.assertEqual(many_days(told), 200)
        self.assertEqual(len(only_days([Stretch(0)], told)), 200)


class EveryShortList(unittest.TestCase):
    """All lists of up to two stretches in the first days, each with each, against going through the days."""

    END = 6  # all stretches here end before it or go on for ever, so days from there on are as the last one

    def setUp(self):
        lasts = [None, *range(4)]
        each = [Stretch(first, last) for first in range(4) for last in lasts if last is None or last >= first]
        pairs = itertools.combinations_with_replacement(each, 2)
        self.lists = [[], *[[one] for one in each], *[list(pair) for pair in pairs]]

    def check_told(self, told, days):
        self.assertEqual(days_before(self.END, told), days)
        self.assertEqual(bool(told) and told[-1].last() is None, self.END - 1 in days)
        for one, other in zip(told, told[1:]):
            self.assertIsNotNone(one.last())
            self.assertGreater(other.first(), one.last() + 1)

    def test_days_in_and_many(self):
        for some in self.lists:
            days = days_before(self.END, some)
            self.check_told(days_in(some), days)
            self.assertEqual(many_days(some), None if self.END - 1 in days else len(days))

    def test_two_lists(self):
        rows = [(some, days_before(self.END, some)) for some in self.lists]
        for (some, ours), (others, theirs) in itertools.product(rows, rows):
            self.check_told(either_days(some, others), ours | theirs)
            self.check_told(both_days(some, others), ours & theirs)
            self.check_told(only_days(some, others), ours - theirs)


class TwoListsTogether(unittest.TestCase):
    """What holds of any two lists, tried with many that are near, many that are far."""

    def some_list(self, dice, scale, for_ever):
        made = []
        for number in range(dice.randrange(9)):
            first = dice.randrange(40) * scale + dice.randrange(3)
            made.append(Stretch(first, first + dice.randrange(6) * scale + dice.randrange(3)))
        if for_ever and dice.randrange(3) == 0:
            made.insert(dice.randrange(len(made) + 1), Stretch(dice.randrange(60) * scale))
        return made

    def pairs(self, for_ever=True):
        dice = random.Random(7)
        for scale in (1, 2, 5, 10**58):
            for time in range(150):
                yield self.some_list(dice, scale, for_ever), self.some_list(dice, scale, for_ever)

    def test_only_and_both_are_the_first(self):
        for some, others in self.pairs():
            only, both = only_days(some, others), both_days(some, others)
            self.assertEqual(either_days(only, both), days_in(some))
            self.assertEqual(both_days(only, both), [])

    def test_only_and_the_second_are_either(self):
        for some, others in self.pairs():
            only = only_days(some, others)
            self.assertEqual(either_days(only, others), either_days(some, others))
            self.assertEqual(both_days(only, others), [])

    def test_counts(self):
        for some, others in self.pairs(for_ever=False):
            self.assertEqual(
                many_days(some) + many_days(others),
                many_days(either_days(some, others)) + many_days(both_days(some, others)),
            )

    def test_either_and_both_whichever_comes_first(self):
        for some, others in self.pairs():
            self.assertEqual(either_days(some, others), either_days(others, some))
            self.assertEqual(both_days(some, others), both_days(others, some))

    def parted(self, dice, some):
        """The same days by more stretches."""
        made = []
        for each in some:
            first = each.first()
            cut = first + dice.randrange(3)
            if each.last() is None or cut < each.last():
                made.append(Stretch(first, cut))
                first = cut + 1
            made.append(Stretch(first, each.last()))
        return made

    def test_parted_or_in_another_order_told_alike(self):
        dice = random.Random(11)
        for some, others in self.pairs():
            unlike = self.parted(dice, some)
            dice.shuffle(unlike)
            self.assertEqual(days_in(unlike), days_in(some))
            self.assertEqual(many_days(unlike), many_days(some))
            for ask in OF_TWO:
                self.assertEqual(ask(unlike, others), ask(some, others))
                self.assertEqual(ask(others, unlike), ask(others, some))


if __name__ == "__main__":
    unittest.main()
