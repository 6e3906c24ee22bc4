"""A boat's goings [2, 4, 12, 13, 14]."""

import random
import unittest

from lightturns.boats import Boat, barred, fewest, loads
from lightturns.errors import NoBoat, NoNumber, NoStores, Small, TooMany

FAR = 10**59
NO_COUNTS = (-1, -FAR, True, False, "", "1", b"1", [], [1], (), (1,), {}, {"oil": 1}, {1}, object(), Boat)
NO_STORES = (
    True, False, 0, 1, "", "oil", b"oil", [], ["oil"], [("oil", 1)], (), ("oil", 1), {"oil"}, set(), object(),
    {"": 1}, {"Oil": 1}, {"lamp oil": 1}, {"oil1": 1}, {"abcdefghi": 1}, {"oil\n": 1}, {1: 1}, {None: 1}, {True: 1},
    {("oil",): 1}, {b"oil": 1}, {"oil": 1, "Oil": 1}, {"Oil": 1, "oil": 1},
    {"oil": 0}, {"oil": -1}, {"oil": -FAR}, {"oil": True}, {"oil": False}, {"oil": None}, {"oil": "1"}, {"oil": [1]},
    {"oil": (1,)}, {"oil": {}}, {"oil": 1, "bread": 0}, {"oil": 0, "bread": 1}, {"oil": 1, "bread": True},
    {letter: 1 for letter in "abcdefghi"}, {letter: 1 for letter in "abcdefghijklmnop"},
)


def do(boat, goings, out, back, weight):
    """Can all be parted among the goings? By the plain words of [13], each way of men out tried."""
    room = min(boat.seats(), boat.carries() // boat.man())
    if back > goings * room:
        return False
    if goings == 0:
        return out == 0 and weight == 0
    for men in range(min(out, boat.seats()) + 1):
        free = boat.carries() - men * boat.man()
        if free >= 0 and do(boat, goings - 1, out - men, 0, max(0, weight - free)):
            return True
    return False


class Made(unittest.TestCase):
    def test_its_methods(self):
        for boat in (Boat(4, 500, 90), Boat(seats=4, carries=500, man=90), Boat(man=90, seats=4, carries=500)):
            self.assertEqual((boat.seats(), boat.carries(), boat.man()), (4, 500, 90))
        boat = Boat(1, 1, 1)
        self.assertEqual((boat.seats(), boat.carries(), boat.man()), (1, 1, 1))
        boat = Boat(FAR, FAR + 1, FAR + 2)
        self.assertEqual((boat.seats(), boat.carries(), boat.man()), (FAR, FAR + 1, FAR + 2))

    def check(self, field, *made_of):
        names = ("seats", "carries", "man")
        for make in (lambda: Boat(*made_of), lambda: Boat(**dict(zip(names, made_of)))):
            with self.assertRaises(NoBoat) as caught:
                make()
            self.assertEqual(caught.exception.field, field)

    def test_refused_with_the_first_that_is_wrong(self):
        for bad in (0, None, *NO_COUNTS):
            with self.subTest(bad):
                self.check("seats", bad, 1, 1)
                self.check("carries", 1, bad, 1)
                self.check("man", 1, 1, bad)
                self.check("seats", bad, bad, bad)
                self.check("seats", bad, bad, 1)
                self.check("seats", bad, 1, bad)
                self.check("carries", 1, bad, bad)
                self.check("carries", 1, bad, 0)


class BarredGoings(unittest.TestCase):
    def check(self, told, *asked):
        self.assertEqual(barred(*asked), told)
        named = dict(zip(("boat", "goings", "out", "back", "stores"), asked))
        self.assertEqual(barred(**named), told)

    def test_they_do(self):
        boat = Boat(4, 500, 100)
        self.check(None, boat, 1, 4)
        self.check(None, boat, 1, 4, 4)
        self.check(None, boat, 1, 4, 4, {"oil": 100})
        self.check(None, boat, 1, 0, 0, {"oil": 300, "bread": 200})
        self.check(None, boat, 2, 8, 8, {"oil": 1, "bread": 199})
        self.check(None, boat, 7, 0, 1, {"oil": 1})

    def test_out(self):
        boat = Boat(4, 500, 100)
        self.check(("out", 5, 4), boat, 1, 5)
        self.check(("out", 9, 8), boat, 2, 9, 0)
        self.check(("out", 1, 0), boat, 0, 1)

    def test_back(self):
        boat = Boat(4, 500, 100)
        self.check(("back", 5, 4), boat, 1, 4, 5)
        self.check(("back", 9, 8), boat, 2, 0, 9)
        self.check(("back", 1, 0), boat, 0, 0, 1)

    def test_weight(self):
        boat = Boat(4, 500, 100)
        self.check(("weight", 501, 500), boat, 1, 4, 0, {"oil": 101})
        self.check(("weight", 501, 500), boat, 1, 0, 4, {"oil": 500, "bread": 1})
        self.check(("weight", 1001, 1000), boat, 2, 8, 8, {"oil": 201})
        self.check(("weight", 1, 0), boat, 0, 0, 0, {"oil": 1})

    def test_room_is_fewer_than_the_seats_by_weight(self):
        boat = Boat(4, 299, 100)
        self.check(None, boat, 1, 2, 2)
        self.check(("out", 3, 2), boat, 1, 3)
        self.check(("back", 3, 2), boat, 1, 0, 3)
        self.check(None, Boat(4, 300, 100), 1, 3, 3)

    def test_men_back_weigh_nothing_on_the_way_out(self):
        self.check(None, Boat(4, 400, 100), 1, 0, 4, {"oil": 400})

    def test_the_first_where_several_are_so(self):
        boat = Boat(2, 200, 100)
        self.check(("out", 3, 2), boat, 1, 3, 3, {"oil": 900})
        self.check(("out", 3, 2), boat, 1, 3, 0, {"oil": 900})
        self.check(("out", 3, 2), boat, 1, 3, 9)
        self.check(("back", 3, 2), boat, 1, 2, 3, {"oil": 900})
        self.check(("weight", 1100, 200), boat, 1, 2, 2, {"oil": 900})

    def test_a_boat_that_takes_no_man_at_all(self):
        boat = Boat(4, 99, 100)
        self.check(None, boat, 0, 0, 0)
        self.check(None, boat, 3, 0, 0, {"oil": 297})
        self.check(("out", 1, 0), boat, 3, 1)
        self.check(("back", 1, 0), boat, 3, 0, 1, {"oil": 1000})
        self.check(("weight", 298, 297), boat, 3, 0, 0, {"oil": 298})

    def test_stores_left_out_none_empty(self):
        boat = Boat(4, 400, 100)
        self.check(None, boat, 1, 4, 4)
        self.check(None, boat, 1, 4, 4, None)
        self.check(None, boat, 1, 4, 4, {})
        self.assertIsNone(barred(boat, 1, 4, stores=None))
        self.assertIsNone(barred(boat, 1, 4, stores={}))
        self.assertEqual(barred(boat, 1, 4, stores={"oil": 1}), ("weight", 401, 400))

    def test_no_goings(self):
        boat = Boat(4, 400, 100)
        self.check(None, boat, 0, 0)
        self.check(None, boat, 0, 0, 0, {})
        self.check(("out", 2, 0), boat, 0, 2, 3, {"oil": 4})

    def test_eight_things(self):
        stores = {name: 5 for name in ("a", "bb", "ccc", "dddd", "eeeee", "ffffff", "ggggggg", "hhhhhhhh")}
        self.check(None, Boat(1, 40, 1), 1, 0, 0, stores)
        self.check(("weight", 40, 39), Boat(1, 39, 1), 1, 0, 0, stores)

    def test_far_numbers(self):
        boat = Boat(FAR, FAR, 1)
        self.check(None, boat, FAR, FAR * FAR, FAR * FAR)
        self.check(("weight", FAR + 1, FAR), boat, 1, FAR, FAR, {"oil": 1})
        self.check(("out", FAR, FAR - 1), Boat(1, 1, 1), FAR - 1, FAR)
        self.check(("back", FAR, FAR - 1), Boat(1, 1, 1), FAR - 1, 1, FAR)
        self.check(None, Boat(1, 2, 1), FAR, FAR, 0, {"oil": FAR})
        self.check(("weight", 2 * FAR + 1, 2 * FAR), Boat(1, 2, 1), FAR, FAR, 0, {"oil": FAR + 1})
        self.check(("out", 1, 0), Boat(FAR, FAR - 1, FAR), FAR, 1)

    def test_against_the_plain_words(self):
        dice = random.Random(21)
        found = {}
        for time in range(1500):
            boat = Boat(dice.randrange(1, 4), dice.randrange(1, 9), dice.randrange(1, 4))
            goings, out, back = dice.randrange(4), dice.randrange(7), dice.randrange(7)
            stores = {name: dice.randrange(1, 8) for name in ("oil", "bread")[: dice.randrange(3)]}
            told = barred(boat, goings, out, back, stores)
            self.assertEqual(told is None, do(boat, goings, out, back, sum(stores.values())))
            word = told and told[0]
            if told is not None:
                self.assertGreater(told[1], told[2])
            found[word] = found.get(word, 0) + 1
        self.assertTrue(all(found.get(word, 0) > 30 for word in (None, "out", "back", "weight")), found)

    def test_no_number(self):
        boat = Boat(4, 400, 100)
        for bad in (None, *NO_COUNTS):
            with self.subTest(bad):
                for asked in (
                    (bad, 0), (0, bad), (0, 0, bad), (bad, bad, bad), (bad, 0, 0, 7), (0, bad, 0, []), (0, 0, bad, {1: 1}),
                ):
                    with self.assertRaises(NoNumber):
                        barred(boat, *asked)
                with self.assertRaises(NoNumber):
                    barred(boat=boat, goings=1, out=1, back=bad)

    def test_no_stores(self):
        boat = Boat(4, 400, 100)
        for bad in NO_STORES:
            with self.subTest(bad):
                with self.assertRaises(NoStores):
                    barred(boat, 9, 0, 0, bad)
                with self.assertRaises(NoStores):
                    barred(boat, 0, 9, 9, bad)
                with self.assertRaises(NoStores):
                    barred(boat=boat, goings=9, out=0, stores=bad)

    def test_asked_again_and_what_was_handed_in_stays(self):
        boat, stores = Boat(4, 400, 100), {"oil": 7, "bread": 9}
        for time in range(3):
            self.assertEqual(barred(boat, 1, 4, 0, stores), ("weight", 416, 400))
            self.assertEqual((boat.seats(), boat.carries(), boat.man()), (4, 400, 100))
            self.assertEqual(list(stores.items()), [("oil", 7), ("bread", 9)])
        stores["oil"] = 1
        self.assertEqual(barred(boat, 1, 4, 0, stores), ("weight", 410, 400))


class Fewest(unittest.TestCase):
    def check(self, told, *asked):
        self.assertEqual(fewest(*asked), told)
        named = dict(zip(("boat", "out", "back", "stores"), asked))
        self.assertEqual(fewest(**named), told)
        boat, *wanted = asked
        self.assertIsNone(barred(boat, told, *wanted))
        if told > 0:
            self.assertIsNotNone(barred(boat, told - 1, *wanted))

    def test_nothing_is_to_be_carried(self):
        self.check(0, Boat(4, 400, 100), 0)
        self.check(0, Boat(4, 400, 100), 0, 0)
        self.check(0, Boat(4, 400, 100), 0, 0, {})
        self.check(0, Boat(4, 400, 100), 0, 0, None)
        self.check(0, Boat(4, 99, 100), 0, 0, {})
        self.check(0, Boat(1, 1, 1), 0)

    def test_by_men_out(self):
        for men, told in ((1, 1), (4, 1), (5, 2), (8, 2), (9, 3)):
            self.check(told, Boat(4, 500, 100), men)
            self.check(told, Boat(9, 499, 100), men, 1)

    def test_by_men_back(self):
        for men, told in ((1, 1), (4, 1), (5, 2), (8, 2), (9, 3)):
            self.check(told, Boat(4, 500, 100), 0, men)
            self.check(told, Boat(9, 499, 100), 1, men, {"oil": 1})

    def test_by_weight(self):
        self.check(1, Boat(4, 500, 100), 4, 4, {"oil": 100})
        self.check(2, Boat(4, 500, 100), 4, 4, {"oil": 101})
        self.check(2, Boat(4, 500, 100), 0, 0, {"oil": 501})
        self.check(2, Boat(4, 500, 100), 0, 0, {"oil": 500, "bread": 500})
        self.check(3, Boat(4, 500, 100), 0, 9, {"oil": 500, "bread": 501})

    def test_small(self):
        boat = Boat(4, 99, 100)
        for asked in ((1,), (1, 0), (0, 1), (1, 1), (0, 1, {"oil": 1}), (FAR, FAR)):
            with self.assertRaises(Small):
                fewest(boat, *asked)
            self.assertIsNotNone(barred(boat, FAR, *asked))
        self.check(2, boat, 0, 0, {"oil": 100})
        self.check(1, Boat(4, 100, 100), 1, 1)

    def test_far_numbers(self):
        self.check(FAR, Boat(1, 1, 1), FAR)
        self.check(FAR, Boat(1, 1, 1), 1, FAR)
        self.check(1, Boat(FAR, FAR, 1), FAR, FAR)
        self.check(2, Boat(FAR, FAR, 1), FAR, FAR, {"oil": 1})
        self.check(3 * FAR // 2 + 1, Boat(3, 2, 1), FAR, 0, {"oil": 2 * FAR + 1})
        self.check(7, Boat(1, 1, FAR), 0, 0, {"oil": 7})

    def test_against_the_plain_words(self):
        dice = random.Random(22)
        for time in range(400):
            boat = Boat(dice.randrange(1, 4), dice.randrange(1, 9), dice.randrange(1, 4))
            out, back = dice.randrange(5), dice.randrange(5)
            stores = {name: dice.randrange(1, 8) for name in ("oil", "bread")[: dice.randrange(3)]}
            goings = [many for many in range(8) if do(boat, many, out, back, sum(stores.values()))]
            if boat.man() > boat.carries() and out + back > 0:
                self.assertEqual(goings, [])
                with self.assertRaises(Small):
                    fewest(boat, out, back, stores)
            else:
                told = fewest(boat, out, back, stores)
                self.assertEqual([many for many in range(8) if many >= told], goings)

    def test_refused(self):
        for ask in (fewest, loads):
            for boat in (Boat(4, 400, 100), Boat(4, 99, 100), Boat(1, 1, 1)):
                for bad in (None, *NO_COUNTS):
                    with self.subTest(ask.__name__, bad=bad):
                        for asked in ((bad,), (0, bad), (1000, bad), (bad, bad), (bad, 0, 7), (1, bad, {1: 1})):
                            with self.assertRaises(NoNumber):
                                ask(boat, *asked)
                for bad in NO_STORES:
                    with self.subTest(ask.__name__, bad=bad):
                        for asked in ((0, 0, bad), (1, 1, bad), (1000, 0, bad)):
                            with self.assertRaises(NoStores):
                                ask(boat, *asked)
                        with self.assertRaises(NoStores):
                            ask(boat=boat, out=1, stores=bad)


class Loads(unittest.TestCase):
    def check(self, boat, out, back=0, stores=None):
        told = loads(boat, out, back, stores)
        self.assertIs(type(told), list)
        self.assertEqual(len(told), fewest(boat, out, back, stores))
        together = {}
        for going in told:
            self.assertIs(type(going), tuple)
            men_out, men_back, some = going
            self.assertIs(type(some), dict)
            self.assertTrue(all(type(number) is int for number in (men_out, men_back, *some.values())))
            self.assertTrue(0 <= men_out <= boat.seats() and 0 <= men_back <= boat.seats())
            self.assertTrue(all(weight > 0 for weight in some.values()))
            self.assertLessEqual(men_out * boat.man() + sum(some.values()), boat.carries())
            self.assertLessEqual(men_back * boat.man(), boat.carries())
            for name, weight in some.items():
                together[name] = together.get(name, 0) + weight
        self.assertEqual(sum(going[0] for going in told), out)
        self.assertEqual(sum(going[1] for going in told), back)
        self.assertEqual(together, stores or {})
        self.assertEqual(len({id(going[2]) for going in told}), len(told))
        self.assertEqual(loads(boat=boat, out=out, back=back, stores=stores), told)
        return told

    def test_nothing_is_to_be_carried(self):
        self.assertEqual(self.check(Boat(4, 400, 100), 0), [])
        self.assertEqual(self.check(Boat(4, 99, 100), 0, 0, {}), [])

    def test_one_going(self):
        self.assertEqual(self.check(Boat(4, 500, 100), 3, 2), [(3, 2, {})])
        self.assertEqual(self.check(Boat(4, 500, 100), 3, 2, {"oil": 200}), [(3, 2, {"oil": 200})])
        self.assertEqual(self.check(Boat(4, 500, 100), 0, 0, {"oil": 200, "ale": 300}), [(0, 0, {"oil": 200, "ale": 300})])
        self.assertEqual(loads(Boat(4, 500, 100), 3), [(3, 0, {})])

    def test_several(self):
        self.check(Boat(4, 500, 100), 9, 0, {"oil": 600})
        self.check(Boat(4, 500, 100), 0, 9, {"oil": 1})
        self.check(Boat(4, 400, 100), 8, 3)
        self.check(Boat(4, 400, 100), 8, 3, {"oil": 1})
        self.check(Boat(2, 500, 100), 4, 4, {"oil": 600})
        self.check(Boat(2, 500, 100), 4, 4, {"oil": 601})
        self.check(Boat(3, 299, 100), 7, 9, {name: 37 for name in "abcdefgh"})

    def test_goings_by_which_just_all_is_carried(self):
        self.check(Boat(3, 10, 2), 9, 0, {"oil": 7, "ale": 5})
        self.check(Boat(3, 7, 2), 9, 1, {"oil": 1, "ale": 2})
        self.check(Boat(1, 3, 2), 5, 5, {"oil": 4, "ale": 1})

    def test_a_boat_without_room(self):
        self.check(Boat(4, 99, 100), 0, 0, {"oil": 100, "ale": 100})
        for asked in ((1,), (0, 1), (1, 1, {"oil": 1}), (FAR, 0)):
            with self.assertRaises(Small):
                loads(Boat(4, 99, 100), *asked)

    def test_too_many(self):
        for asked in ((301,), (0, 301), (0, 0, {"oil": 301}), (1, 0, {"oil": 300}), (FAR, FAR, {"oil": FAR})):
            with self.assertRaises(TooMany):
                loads(Boat(1, 1, 1), *asked)
        with self.assertRaises(TooMany):
            loads(boat=Boat(4, 400, 100), out=1201)

    def test_just_300(self):
        self.assertEqual(len(self.check(Boat(1, 1, 1), 300)), 300)
        self.assertEqual(len(self.check(Boat(1, 1, 1), 0, 300)), 300)
        self.assertEqual(len(self.check(Boat(1, 1, 1), 100, 300, {"oil": 200})), 300)
        self.assertEqual(len(self.check(Boat(4, 400, 100), 1200, 1200)), 300)

    def test_far_numbers(self):
        self.check(Boat(FAR, FAR, 1), 100 * FAR, 99 * FAR, {"oil": 200 * FAR})
        self.check(Boat(FAR, 7 * FAR, 3), 100 * FAR, 299 * FAR, {"oil": FAR, "ale": 17 * FAR + 1})
        self.check(Boat(FAR, FAR, FAR), 11, 12, {"oil": FAR - 1})

    def test_many_thrown_ones(self):
        dice = random.Random(23)
        for time in range(600):
            boat = Boat(dice.randrange(1, 6), dice.randrange(5, 40), dice.randrange(1, 6))
            names = ("oil", "ale", "bread", "peat")[: dice.randrange(5)]
            self.check(boat, dice.randrange(25), dice.randrange(25), {name: dice.randrange(1, 60) for name in names})

    def test_told_dicts_are_the_askers_own(self):
        boat, stores = Boat(2, 300, 100), {"oil": 300, "ale": 200}
        told, kept = loads(boat, 4, 0, stores), loads(boat, 4, 0, stores)
        self.assertEqual(told, kept)
        for going in told:
            going[2]["oil"] = 7
            going[2]["peat"] = 8
        told.clear()
        self.assertEqual(loads(boat, 4, 0, stores), kept)
        self.assertEqual(list(stores.items()), [("oil", 300), ("ale", 200)])
        one = loads(boat, 0, 0, {"oil": 5})
        one[0][2]["oil"] = 6
        self.assertEqual(loads(boat, 0, 0, {"oil": 5}), [(0, 0, {"oil": 5})])
        stores["oil"] = 1
        self.assertEqual(sum(going[2].get("oil", 0) for going in kept), 300)

    def test_empty_dicts_too(self):
        told = loads(Boat(1, 1, 1), 3)
        told[0][2]["oil"] = 1
        self.assertEqual(told, [(1, 0, {"oil": 1}), (1, 0, {}), (1, 0, {})])
        self.assertEqual(loads(Boat(1, 1, 1), 3), [(1, 0, {})] * 3)


if __name__ == "__main__":
    unittest.main()
