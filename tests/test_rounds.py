"""Rounds of turns [2, 4, 15, 16, 17]."""

import itertools
import random
import unittest
import unittest.mock

from lightturns.errors import NoNumber, NoRound, NoSlot, TooMany
from lightturns.rounds import Round, even_round, keeping

FAR = 10**59
NO_WHOLES = (True, False, None, "", "1", b"1", [], [1], (), (1,), {}, {1: 1}, {1}, object(), Round)


def small_rounds():
    for on, off in itertools.product(range(1, 4), range(4)):
        for many in range(4):
            for begins in itertools.product(range(on + off), repeat=many):
                yield on, off, list(begins)


def on_by_going_round(on, off, begin, slot):
    """Is one on? Found by stepping from the begin to the slot, up or down, one slot after another."""
    turn = ["on"] * on + ["off"] * off
    at = 0
    for step in range(abs(slot - begin)):
        at = (at + (1 if slot > begin else -1)) % len(turn)
    return turn[at] == "on"


class Made(unittest.TestCase):
    def test_its_methods(self):
        for made in (Round(2, 3, [0, 4]), Round(on=2, off=3, begins=[0, 4]), Round(begins=(0, 4), on=2, off=3)):
            self.assertEqual((made.on(), made.off(), made.begins(), len(made)), (2, 3, [0, 4], 2))
            self.assertIs(type(made.begins()), list)

    def test_no_keepers_and_forty(self):
        for begins in ([], ()):
            self.assertEqual((Round(1, 0, begins).begins(), len(Round(1, 0, begins))), ([], 0))
        forty = Round(1, 39, list(range(40)))
        self.assertEqual((forty.begins(), len(forty)), (list(range(40)), 40))
        self.assertEqual(len(Round(1, 0, [0] * 40)), 40)

    def test_far(self):
        made = Round(FAR, FAR + 1, [2 * FAR, 0])
        self.assertEqual((made.on(), made.off(), made.begins()), (FAR, FAR + 1, [2 * FAR, 0]))

    def test_repr(self):
        self.assertEqual(repr(Round(2, 3, [0, 4])), "Round(2, 3, [0, 4])")
        self.assertEqual(repr(Round(2, 3, (4, 0, 0))), "Round(2, 3, [4, 0, 0])")
        self.assertEqual(repr(Round(1, 0, [])), "Round(1, 0, [])")
        self.assertEqual(repr(Round(1, 0, (0,))), "Round(1, 0, [0])")
        self.assertEqual(repr([Round(FAR, 0, [7])]), "[Round(1" + "0" * 59 + ", 0, [7])]")

    def check(self, field, *made_of):
        for make in (lambda: Round(*made_of), lambda: Round(**dict(zip(("on", "off", "begins"), made_of)))):
            with self.assertRaises(NoRound) as caught:
                make()
            self.assertEqual(caught.exception.field, field)

    def test_on_that_is_none(self):
        for bad in (0, -1, -FAR, *NO_WHOLES):
            with self.subTest(bad):
                self.check("on", bad, 1, [0])
                self.check("on", bad, 1, [])
                self.check("on", bad, bad, bad)
                self.check("on", bad, -1, [0])
                self.check("on", bad, 1, None)

    def test_off_that_is_none(self):
        for bad in (-1, -FAR, *NO_WHOLES):
            with self.subTest(bad):
                self.check("off", 1, bad, [0])
                self.check("off", 1, bad, [])
                self.check("off", 1, bad, bad)
                self.check("off", 1, bad, [True])

    def test_begins_that_are_none(self):
        for bad in (
            None, True, False, 0, 1, "", "0", b"0", {}, {0: 0}, set(), {0}, range(1), iter([]), object(), Round(1, 0, [0]),
        ):
            self.check("begins", 2, 3, bad)
        for bad in (-1, -FAR, 5, 6, FAR, *NO_WHOLES):
            for begins in ([bad], [0, bad], [bad, 0], [0, bad, 4]):
                self.check("begins", 2, 3, begins)
                self.check("begins", 2, 3, tuple(begins))
        self.check("begins", 1, 0, [1])
        self.check("begins", 2, 3, [0] * 41)
        self.check("begins", 1, 40, list(range(41)))
        self.check("begins", FAR, FAR, [2 * FAR])

    def test_a_list_handed_in_stays_and_may_be_changed(self):
        begins = [4, 0]
        made = Round(2, 3, begins)
        self.assertEqual((made.on_in(0), made.least(), len(made)), ([0, 1], (0, 2), 2))
        self.assertEqual(begins, [4, 0])
        begins[0] = 1
        begins.append(77)
        self.assertEqual((made.begins(), made.on_in(0), len(made)), ([4, 0], [0, 1], 2))
        self.assertEqual(repr(made), "Round(2, 3, [4, 0])")

    def test_told_lists_are_the_askers_own(self):
        made = Round(2, 3, [4, 0])
        for told in (made.begins(), made.on_in(0), made.begins()):
            told[0] = 3
            told.append(9)
            self.assertEqual((made.begins(), made.on_in(0), len(made)), ([4, 0], [0, 1], 2))
            self.assertEqual(made.least(), (0, 2))

    def test_asked_again(self):
        made = Round(2, 3, [4, 0])
        for time in range(3):
            self.assertEqual(
                (made.begins(), made.on_in(1), made.least(), made.moved(1), repr(made)),
                ([4, 0], [1], (0, 2), Round(2, 3, [0, 1]), "Round(2, 3, [4, 0])"),
            )


class OnIn(unittest.TestCase):
    def test_one_keeper(self):
        made = Round(2, 3, [0])
        self.assertEqual([made.on_in(slot) for slot in range(7)], [[0], [0], [], [], [], [0], [0]])
        made = Round(2, 3, [4])
        self.assertEqual([made.on_in(slot) for slot in range(7)], [[0], [], [], [], [0], [0], []])

    def test_several_by_rising_numbers(self):
        made = Round(2, 1, [2, 0, 1, 0])
        self.assertEqual([made.on_in(slot) for slot in range(4)], [[0, 1, 3], [1, 2, 3], [0, 2], [0, 1, 3]])
        self.assertEqual(made.on_in(slot=2), [0, 2])

    def test_never_off(self):
        made = Round(2, 0, [0, 1])
        self.assertEqual([made.on_in(slot) for slot in (0, 1, 2, FAR)], [[0, 1]] * 4)

    def test_no_keepers(self):
        self.assertEqual(Round(2, 3, []).on_in(0), [])
        self.assertEqual(Round(2, 3, []).on_in(FAR), [])

    def test_far(self):
        made = Round(2, 3, [0, 4])
        self.assertEqual([made.on_in(FAR + slot) for slot in range(5)], [[0, 1], [0], [], [], [1]])
        made = Round(FAR, 1, [0, 1, FAR])
        self.assertEqual(made.on_in(FAR), [1, 2])
        self.assertEqual(made.on_in(0), [0, 2])
        self.assertEqual(made.on_in(FAR - 1), [0, 1])

    def test_against_the_plain_words(self):
        for on, off, begins in small_rounds():
            if len(begins) > 2:
                continue
            made = Round(on, off, begins)
            for slot in range(9):
                told = [number for number, begin in enumerate(begins) if on_by_going_round(on, off, begin, slot)]
                self.assertEqual(made.on_in(slot), told)

    def test_each_is_off_for_off_slots_between_two_times_on(self):
        made = Round(3, 2, [0, 1, 2, 3, 4])
        for keeper in range(5):
            turns = "".join("x" if keeper in made.on_in(slot) else " " for slot in range(40))
            self.assertIn("xxx  xxx  xxx", turns)
            self.assertEqual(turns, turns[:5] * 8)

    def test_what_is_no_slot(self):
        for made in (Round(2, 3, [0, 4]), Round(1, 0, [])):
            for bad in (-1, -FAR, *NO_WHOLES):
                with self.assertRaises(NoSlot):
                    made.on_in(bad)
                with self.assertRaises(NoSlot):
                    made.on_in(slot=bad)


class Least(unittest.TestCase):
    def test_told(self):
        self.assertEqual(Round(2, 3, [0, 4]).least(), (0, 2))
        self.assertEqual(Round(2, 3, [1, 2]).least(), (0, 0))
        self.assertEqual(Round(2, 1, [0, 1, 2]).least(), (2, 0))
        self.assertEqual(Round(2, 1, [0, 0, 1]).least(), (1, 2))
        self.assertEqual(Round(2, 1, [2, 0, 2]).least(), (1, 1))
        self.assertEqual(Round(3, 4, [0, 2, 5]).least(), (1, 1))
        self.assertIs(type(Round(2, 3, [0, 4]).least()), tuple)

    def test_of_no_keepers(self):
        self.assertEqual(Round(2, 3, []).least(), (0, 0))
        self.assertEqual(Round(FAR, 0, []).least(), (0, 0))

    def test_never_off(self):
        self.assertEqual(Round(2, 0, [0, 1, 1]).least(), (3, 0))

    def test_far(self):
        self.assertEqual(Round(FAR, 1, [0]).least(), (0, FAR))
        self.assertEqual(Round(FAR, FAR, [0, FAR]).least(), (1, 0))
        self.assertEqual(Round(FAR, FAR, [0, FAR + 1]).least(), (0, FAR))
        self.assertEqual(Round(1, FAR, [0, 1, 2]).least(), (0, 3))
        self.assertEqual(Round(FAR, FAR, [1, FAR - 1]).least(), (0, 0))

    def test_against_going_through_the_slots(self):
        for on, off, begins in small_rounds():
            made = Round(on, off, begins)
            counts = [len(made.on_in(slot)) for slot in range(on + off)]
            self.assertEqual(made.least(), (min(counts), counts.index(min(counts))))


class Moved(unittest.TestCase):
    def test_told(self):
        made = Round(2, 3, [0, 4])
        self.assertEqual(made.moved(0).begins(), [0, 4])
        self.assertEqual(made.moved(1).begins(), [1, 0])
        self.assertEqual(made.moved(by=4).begins(), [4, 3])
        self.assertEqual(made.moved(5).begins(), [0, 4])
        self.assertEqual(made.moved(-1).begins(), [4, 3])
        self.assertEqual(made.moved(-6).begins(), [4, 3])
        self.assertEqual(made.moved(FAR + 2).begins(), [2, 1])
        self.assertEqual(made.moved(-FAR).begins(), [0, 4])
        self.assertEqual(made.moved(-FAR - 3).begins(), [2, 1])
        moved = made.moved(2)
        self.assertEqual((type(moved), moved.on(), moved.off(), len(moved)), (Round, 2, 3, 2))

    def test_the_one_that_is_moved_stays(self):
        made = Round(2, 3, [0, 4])
        moved = made.moved(0)
        self.assertIsNot(moved, made)
        moved.begins().clear()
        made.moved(3)
        self.assertEqual((made.begins(), moved.begins()), ([0, 4], [0, 4]))

    def test_who_is_on_so_much_later(self):
        made = Round(3, 4, [0, 2, 5])
        for by in range(9):
            moved = made.moved(by)
            self.assertEqual([moved.on_in(slot + by) for slot in range(20)], [made.on_in(slot) for slot in range(20)])
            self.assertIs(moved.moved(-by) == made, True)
            self.assertEqual(moved.least()[0], made.least()[0])

    def test_of_no_keepers(self):
        self.assertEqual(Round(2, 3, []).moved(7).begins(), [])

    def test_what_is_no_number(self):
        for made in (Round(2, 3, [0, 4]), Round(1, 0, [])):
            for bad in NO_WHOLES:
                with self.assertRaises(NoNumber):
                    made.moved(bad)
                with self.assertRaises(NoNumber):
                    made.moved(by=bad)


class Equal(unittest.TestCase):
    def check(self, one, other, equal):
        self.assertIs(one == other, equal)
        self.assertIs(other == one, equal)
        self.assertIs(one != other, not equal)
        self.assertIs(other != one, not equal)

    def test_equal_ones(self):
        made = Round(2, 3, [0, 4])
        self.check(made, made, True)
        self.check(made, Round(2, 3, (0, 4)), True)
        self.check(made, Round(2, 3, [4, 0]), True)
        self.check(Round(2, 3, [1, 0, 4, 0]), Round(2, 3, [0, 0, 1, 4]), True)
        self.check(Round(2, 3, []), Round(2, 3, []), True)
        self.check(made, made.moved(5), True)

    def test_unlike_ones(self):
        made = Round(2, 3, [0, 4])
        for other in (
            Round(3, 3, [0, 4]), Round(2, 4, [0, 4]), Round(3, 2, [0, 4]), Round(2, 3, [0, 3]), Round(2, 3, [0]),
            Round(2, 3, [0, 4, 4]), Round(2, 3, [0, 0, 4]), Round(2, 3, []), Round(1, 4, [0, 4]), made.moved(1),
        ):
            self.check(made, other, False)
        self.check(Round(2, 3, []), Round(2, 4, []), False)
        self.check(Round(2, 0, [0]), Round(1, 0, [0]), False)

    def test_what_is_no_round(self):
        made = Round(2, 3, [0, 4])
        for thing in (None, True, 2, "Round(2, 3, [0, 4])", (2, 3, [0, 4]), [0, 4], [made], {}, object(), Round):
            self.check(made, thing, False)
        self.check(Round(1, 0, []), [], False)
        self.assertIs(made == unittest.mock.ANY, False)


class Even(unittest.TestCase):
    def check(self, on, off, many):
        for made in (even_round(on, off, many), even_round(on=on, off=off, many=many), even_round(many=many, on=on, off=off)):
            self.assertIs(type(made), Round)
            self.assertEqual((made.on(), made.off(), len(made)), (on, off, many))
            self.assertEqual(made.least()[0], many * on // (on + off))

    def test_each_small_one(self):
        for on, off, many in itertools.product(range(1, 9), range(9), range(41)):
            self.check(on, off, many)

    def test_thrown_ones(self):
        dice = random.Random(31)
        for time in range(400):
            self.check(dice.randrange(1, 300), dice.randrange(300), dice.randrange(41))

    def test_far_ones(self):
        dice = random.Random(32)
        for time in range(200):
            self.check(dice.randrange(1, FAR), dice.randrange(FAR), dice.randrange(41))
        for on, off in ((1, FAR), (FAR, 1), (FAR, 0), (FAR, FAR), (FAR, FAR - 1), (10**30, FAR)):
            for many in (0, 1, 2, 39, 40):
                self.check(on, off, many)

    def test_none_and_forty(self):
        self.assertEqual(even_round(2, 3, 0).begins(), [])
        self.assertEqual(even_round(1, 39, 40).least()[0], 1)
        self.assertEqual(even_round(1, 40, 40).least()[0], 0)

    def test_no_round_of_as_many_has_more(self):
        most = {}
        for on, off, begins in small_rounds():
            asked = (on, off, len(begins))
            most[asked] = max(most.get(asked, 0), Round(on, off, begins).least()[0])
        for (on, off, many), told in most.items():
            self.assertEqual(even_round(on, off, many).least()[0], told)

    def check_refused(self, field, *asked):
        with self.assertRaises(NoRound) as caught:
            even_round(*asked)
        self.assertEqual(caught.exception.field, field)

    def test_refused(self):
        for bad in (0, -1, *NO_WHOLES):
            self.check_refused("on", bad, 1, 1)
            self.check_refused("on", bad, bad, bad)
            self.check_refused("on", bad, -1, 41)
        for bad in (-1, *NO_WHOLES):
            self.check_refused("off", 1, bad, 1)
            self.check_refused("off", 1, bad, 41)
            self.check_refused("off", 1, bad, bad)
        for bad in (-1, -FAR, 41, 42, FAR, *NO_WHOLES):
            with self.assertRaises(NoNumber):
                even_round(2, 3, bad)
            with self.assertRaises(NoNumber):
                even_round(many=bad, on=1, off=0)

    def test_asked_again(self):
        told = even_round(2, 3, 4)
        told.begins().clear()
        self.assertEqual(even_round(2, 3, 4).begins(), told.begins())


class Keeping(unittest.TestCase):
    def check(self, many, on, off, keepers):
        for told in (keeping(many, on, off), keeping(many=many, on=on, off=off), keeping(off=off, on=on, many=many)):
            self.assertIs(type(told), tuple)
            self.assertEqual(len(told), 2)
            self.assertEqual(told[0], keepers)
            self.assertIs(type(told[1]), Round)
            self.assertEqual((told[1].on(), told[1].off(), len(told[1])), (on, off, keepers))
            self.assertGreaterEqual(told[1].least()[0], many)
            self.assertTrue(all(len(told[1].on_in(slot)) >= many for slot in range(20)))
        # One keeper fewer can't: they are on too seldom, all together.
        self.assertLess((keepers - 1) * on, max(1, many * (on + off)))

    def test_told(self):
        self.check(1, 2, 3, 3)
        self.check(2, 2, 3, 5)
        self.check(3, 2, 3, 8)
        self.check(1, 1, 1, 2)
        self.check(20, 1, 1, 40)
        self.check(1, 1, 39, 40)
        self.check(2, 3, 1, 3)

    def test_never_off(self):
        self.check(1, 1, 0, 1)
        self.check(7, 5, 0, 7)
        self.check(40, FAR, 0, 40)

    def test_so_many_0(self):
        for on, off in ((1, 0), (2, 3), (FAR, FAR)):
            told = keeping(0, on, off)
            self.assertEqual(told[0], 0)
            self.assertEqual((told[1].on(), told[1].off(), told[1].begins()), (on, off, []))

    def test_each_small_one(self):
        for many, on, off in itertools.product(range(6), range(1, 6), range(8)):
            keepers = next(some for some in range(60) if some * on // (on + off) >= many)
            if keepers > 40:
                with self.assertRaises(TooMany):
                    keeping(many, on, off)
            else:
                self.check(many, on, off, keepers)

    def test_too_many(self):
        for many, on, off in ((41, 1, 0), (21, 1, 1), (1, 1, 40), (2, 1, 20), (FAR, 1, 0), (FAR, FAR, FAR), (1, 1, FAR)):
            with self.assertRaises(TooMany):
                keeping(many, on, off)
        self.check(39, 40, 1, 40)
        with self.assertRaises(TooMany):
            keeping(40, 40, 1)

    def test_far(self):
        self.check(20, FAR, FAR, 40)
        with self.assertRaises(TooMany):
            keeping(20, FAR, FAR + 1)
        self.check(19, FAR, FAR + 1, 39)
        self.check(1, FAR, 39 * FAR, 40)
        self.check(1, FAR, 39 * FAR - 1, 40)
        self.check(1, FAR, 1, 2)

    def check_refused(self, field, *asked):
        with self.assertRaises(NoRound) as caught:
            keeping(*asked)
        self.assertEqual(caught.exception.field, field)

    def test_refused(self):
        for bad in (0, -1, *NO_WHOLES):
            self.check_refused("on", 1, bad, 1)
            self.check_refused("on", bad if bad != 0 else None, bad, bad)
            self.check_refused("on", 1000, bad, -1)
        for bad in (-1, *NO_WHOLES):
            self.check_refused("off", 1, 1, bad)
            self.check_refused("off", bad, 1, bad)
            self.check_refused("off", 1000, 1, bad)
        for bad in (-1, -FAR, *NO_WHOLES):
            with self.assertRaises(NoNumber):
                keeping(bad, 2, 3)
            with self.assertRaises(NoNumber):
                keeping(many=bad, on=1, off=FAR)

    def test_asked_again(self):
        told = keeping(2, 2, 3)
        told[1].begins().clear()
        again = keeping(2, 2, 3)
        self.assertEqual((again[0], again[1].begins()), (told[0], told[1].begins()))


if __name__ == "__main__":
    unittest.main()
