"""Lights and services [2, 18]."""

import unittest
import unittest.mock

from lightturns.errors import NoLight, NoService
from lightturns.lights import Light, Service

NAMES = ("name", "crew", "need", "stock", "lands", "sicks")
GOOD = ("skerry", 3, 2, 9, "ab", "c")
NO_WHOLES = (True, False, None, "", "1", b"1", [], [1], (), (1,), {}, {1: 1}, {1}, object(), Light)
NO_LETTERS = (
    "aa", "aba", "abca", "A", "aB", "a1", "1", " ", "a ", "a b", "a\n", "-", None, True, False, 0, 1, b"", b"a", [], ["a"],
    (), ("a", "b"), {}, {"a": 1}, {"a"}, object(),
)
BADS = {
    "name": ("", "Skerry", "a b", "abcdefghi", "rock1", "rock\n", None, True, 0, b"rock", [], ["rock"], ("rock",), {}, object()),
    "crew": (0, -1, 10, 11, 10**59, -10**59, *NO_WHOLES),
    "need": (-1, 4, 9, 10**59, *NO_WHOLES),
    "stock": (0, -1, 31, 32, 10**59, *NO_WHOLES),
    "lands": NO_LETTERS,
    "sicks": NO_LETTERS,
}


def parts(light):
    return (light.name(), light.crew(), light.need(), light.stock(), light.lands(), light.sicks())


class Lights(unittest.TestCase):
    def test_its_methods(self):
        named = dict(zip(NAMES, GOOD))
        for light in (Light(*GOOD), Light(**named), Light("skerry", 3, sicks="c", lands="ab", stock=9, need=2)):
            self.assertEqual(parts(light), GOOD)

    def test_defaults(self):
        self.assertEqual(parts(Light("skerry", 3, 2, 9)), ("skerry", 3, 2, 9, "", ""))
        self.assertEqual(parts(Light("skerry", 3, 2, 9, "a")), ("skerry", 3, 2, 9, "a", ""))
        self.assertEqual(parts(Light("skerry", 3, 2, 9, sicks="a")), ("skerry", 3, 2, 9, "", "a"))

    def test_the_bounds_of_each(self):
        every = "abcdefghijklmnopqrstuvwxyz"
        for made_of in (
            ("a", 1, 0, 1, "", ""), ("abcdefgh", 9, 9, 30, every, every[::-1]), ("rock", 1, 1, 30, "z", "z"),
            ("rock", 9, 0, 1, "ba", "ab"),
        ):
            self.assertEqual(parts(Light(*made_of)), made_of)
        for crew in range(1, 10):
            for need in range(crew + 1):
                self.assertEqual((Light("a", crew, need, 1).crew(), Light("a", crew, need, 1).need()), (crew, need))
            self.check("need", "a", crew, crew + 1, 1)
        for stock in range(1, 31):
            self.assertEqual(Light("a", 1, 1, stock).stock(), stock)

    def check(self, field, *made_of):
        for make in (lambda: Light(*made_of), lambda: Light(**dict(zip(NAMES, made_of)))):
            with self.assertRaises(NoLight) as caught:
                make()
            self.assertEqual(caught.exception.field, field)

    def with_bad(self, *bads):
        made_of = dict(zip(NAMES, GOOD))
        made_of.update(bads)
        return tuple(made_of.values())

    def test_refused_with_the_field(self):
        for field, bads in BADS.items():
            for bad in bads:
                with self.subTest(field, bad=bad):
                    self.check(field, *self.with_bad((field, bad)))

    def test_of_several_wrong_ones_the_first(self):
        for at, first in enumerate(NAMES):
            for later in NAMES[at + 1:]:
                for bad in BADS[first]:
                    for also in BADS[later][:5]:
                        with self.subTest(first, bad=bad, later=later, also=also):
                            self.check(first, *self.with_bad((first, bad), (later, also)))
        self.check("name", None, None, None, None, None, None)

    def check_equal(self, one, other, equal):
        self.assertIs(one == other, equal)
        self.assertIs(other == one, equal)
        self.assertIs(one != other, not equal)
        self.assertIs(other != one, not equal)

    def test_equal(self):
        light = Light(*GOOD)
        self.check_equal(light, light, True)
        self.check_equal(light, Light(*GOOD), True)
        self.check_equal(Light("a", 1, 1, 1), Light("a", 1, 1, 1, "", ""), True)
        for bads in (("name", "rock"), ("crew", 4), ("need", 1), ("stock", 8), ("lands", "a"), ("lands", ""), ("sicks", "d")):
            self.check_equal(light, Light(*self.with_bad(bads)), False)
        self.check_equal(Light("a", 1, 1, 1, "a", ""), Light("a", 1, 1, 1, "", "a"), False)
        self.check_equal(Light("a", 1, 1, 1, "ab"), Light("a", 1, 1, 1, "ba"), False)

    def test_what_is_no_light(self):
        light = Light(*GOOD)
        for thing in (GOOD, list(GOOD), "skerry", None, True, 3, {}, [light], object(), Light, Service([light], 1)):
            self.check_equal(light, thing, False)
        self.assertIs(light == unittest.mock.ANY, False)


class Services(unittest.TestCase):
    def setUp(self):
        self.rock, self.reef, self.isle = Light("rock", 3, 2, 9), Light("reef", 1, 0, 1), Light("isle", 9, 9, 30)

    def test_its_methods(self):
        for lights in ([self.rock], [self.rock, self.reef], [self.isle, self.rock, self.reef]):
            for handed in (lights, tuple(lights)):
                for service in (Service(handed, 4), Service(lights=handed, seats=4), Service(seats=4, lights=handed)):
                    self.assertIs(type(service.lights()), list)
                    self.assertEqual((service.lights(), service.seats()), (lights, 4))

    def test_seats(self):
        for seats in range(10):
            self.assertEqual(Service([self.rock], seats).seats(), seats)

    def check(self, field, lights, seats):
        for make in (lambda: Service(lights, seats), lambda: Service(lights=lights, seats=seats)):
            with self.assertRaises(NoService) as caught:
                make()
            self.assertEqual(caught.exception.field, field)

    def no_lights(self):
        yield from (None, True, 0, "", "rock", b"", {}, {"rock": self.rock}, set(), self.rock, object(), Light, [], (), iter([]))
        for bad in (None, True, 1, "rock", [], [self.rock], ("rock", 3, 2, 9, "", ""), {}, object(), Light):
            for lights in ([bad], [bad, self.rock], [self.rock, bad], [self.rock, bad, self.reef]):
                yield lights
                yield tuple(lights)
        four = [self.rock, self.reef, self.isle, Light("cape", 1, 1, 1)]
        yield four
        yield tuple(four)
        yield [self.rock, self.rock]
        yield [self.rock, self.reef, Light("rock", 1, 1, 1)]
        yield (self.reef, self.rock, Light("reef", 2, 1, 1))

    def test_no_lights(self):
        for bad in self.no_lights():
            with self.subTest(bad):
                self.check("lights", bad, 4)

    def test_no_seats(self):
        for bad in (-1, 10, 11, 10**59, -10**59, *NO_WHOLES):
            with self.subTest(bad):
                self.check("seats", [self.rock], bad)

    def test_of_both_wrong_the_first(self):
        for bad in self.no_lights():
            for seats in (-1, 10, True, None, "4"):
                self.check("lights", bad, seats)

    def test_a_list_handed_in_stays_and_may_be_changed(self):
        lights = [self.rock, self.reef]
        service = Service(lights, 4)
        self.assertEqual(lights, [self.rock, self.reef])
        lights.append(self.isle)
        lights[0] = self.isle
        self.assertEqual(service.lights(), [self.rock, self.reef])

    def test_a_told_list_is_the_askers_own(self):
        service = Service([self.rock, self.reef], 4)
        told, kept = service.lights(), service.lights()
        told.reverse()
        told.pop()
        self.assertEqual(kept, [self.rock, self.reef])
        self.assertEqual(service.lights(), [self.rock, self.reef])


if __name__ == "__main__":
    unittest.main()
