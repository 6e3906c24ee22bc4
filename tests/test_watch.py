"""Lights in any weather: stands, days, safe or short [2, 4, 19 to 23]."""

import random
import unittest
import unittest.mock

from lightturns.errors import NoLetter, NoName, NoStand, TooMany
from lightturns.kinds import Kind
from lightturns.lights import Light, Service
from lightturns.makings import one_in
from lightturns.watch import fewest_seats, first_stand, least_stock, next_stand, safe, shows_safe
from tables_of import some_table, weathers

FOR_ALL = Kind([dict.fromkeys("abcdlsx", 0)])
NO_STANDS = (None, True, False, 0, 1, "", "stand", b"", [], (), {}, set(), object(), Kind, iter(()))


def day(service, kind, stand, letter):
    """The day by the plain words of [20], light by light by name."""
    row, ahead, *rest = stand
    lights = service.lights()
    well = {light.name(): rest[2 * at] for at, light in enumerate(lights)}
    days = {light.name(): rest[2 * at + 1] for at, light in enumerate(lights)}
    for light in lights:
        if letter in light.sicks() and well[light.name()] > 0:
            well[light.name()] -= 1
    told = None
    for light in reversed(lights):
        if days[light.name()] == light.stock():
            told = (light.name(), "stores")
        if well[light.name()] < light.need():
            told = (light.name(), "keepers")
    landed = None
    if letter in lights[ahead].lands():
        landed = lights[ahead].name()
        for seat in range(service.seats()):
            if well[landed] < lights[ahead].crew():
                well[landed] += 1
        ahead = 0 if ahead == len(lights) - 1 else ahead + 1
    after = [kind.table()[row][letter], ahead]
    for light in lights:
        name = light.name()
        after.append(well[name])
        after.append(0 if name == landed else days[name] if days[name] == light.stock() else days[name] + 1)
    return tuple(after), told


def first_short(service, kind, most):
    """The first weather of up to so many days whose last day is short, by going through all weathers."""
    stands = {"": first_stand(service)}
    for weather in weathers(kind.table(), most):
        if weather:
            stand, told = day(service, kind, stands[weather[:-1]], weather[-1])
            if told is not None:
                return ("short", weather, *told)
            stands[weather] = stand
    return None


def stands_come_to(service, kind):
    """All stands come to by weathers that have no short day."""
    found, left = set(), [first_stand(service)]
    while left:
        stand = left.pop()
        if stand not in found:
            found.add(stand)
            for letter in kind.table()[stand[0]]:
                after, told = day(service, kind, stand, letter)
                if told is None:
                    left.append(after)
    return found


def some_service(dice):
    lights = []
    for name in ("rock", "reef", "isle")[: dice.randrange(1, 4)]:
        crew = dice.randrange(1, 4)
        lands = "".join(letter for letter in "abc" if dice.randrange(4) > 0)
        sicks = "".join(letter for letter in "abc" if dice.randrange(5) == 0)
        lights.append(Light(name, crew, dice.randrange(crew), dice.randrange(2, 8), lands, sicks))
    return Service(lights, dice.randrange(3))


def three_lights(lead, many):
    """A kind and a service of three lights with so many rows ahead of a circle of so many: lead + 3 * many stands.

    The boat lands each day, at one light after another, so the stands go
    round with the rows and the lights, where many is no multiple of three;
    two stands at the begin are like no later ones.
    """
    table = [{"l": number + 1} for number in range(lead)]
    table += [{"l": lead + (number + 1) % many} for number in range(many)]
    lights = [Light(name, 1, 1, 9, "l", "x") for name in ("rock", "reef", "isle")]
    return Service(lights, 1), table


class Stands(unittest.TestCase):
    def test_the_first_one(self):
        rock, reef, isle = Light("rock", 3, 2, 9), Light("reef", 1, 0, 1), Light("isle", 9, 9, 30)
        self.assertEqual(first_stand(Service([rock], 4)), (0, 0, 3, 0))
        self.assertEqual(first_stand(Service([reef, rock], 0)), (0, 0, 1, 0, 3, 0))
        self.assertEqual(first_stand(service=Service((isle, rock, reef), 9)), (0, 0, 9, 0, 3, 0, 1, 0))
        self.assertIs(type(first_stand(Service([rock], 4))), tuple)


class Days(unittest.TestCase):
    def check(self, service, kind, stand, letter, after, told):
        answer = next_stand(service, kind, stand, letter)
        self.assertEqual(answer, (after, told))
        self.assertIs(type(answer), tuple)
        self.assertIs(type(answer[0]), tuple)
        self.assertEqual(next_stand(service=service, kind=kind, stand=stand, letter=letter), (after, told))
        self.assertEqual(next_stand(letter=letter, stand=stand, kind=kind, service=service), (after, told))
        self.assertEqual(day(service, kind, stand, letter), (after, told))

    def test_a_day_on_which_nothing_is(self):
        service = Service([Light("rock", 3, 2, 9, "l", "s")], 2)
        self.check(service, FOR_ALL, (0, 0, 3, 0), "a", (0, 0, 3, 1), None)
        self.check(service, FOR_ALL, (0, 0, 2, 8), "a", (0, 0, 2, 9), None)

    def test_a_keeper_falls_sick(self):
        service = Service([Light("rock", 3, 1, 9, "l", "s")], 2)
        self.check(service, FOR_ALL, (0, 0, 3, 0), "s", (0, 0, 2, 1), None)
        self.check(service, FOR_ALL, (0, 0, 2, 4), "s", (0, 0, 1, 5), None)

    def test_none_is_left_to_fall_sick(self):
        service = Service([Light("rock", 3, 0, 9, "l", "s")], 2)
        self.check(service, FOR_ALL, (0, 0, 1, 0), "s", (0, 0, 0, 1), None)
        self.check(service, FOR_ALL, (0, 0, 0, 1), "s", (0, 0, 0, 2), None)

    def test_at_each_light_whose_sicks_have_it(self):
        lights = [Light("rock", 3, 0, 9, "", "sa"), Light("reef", 3, 0, 9, "", "b"), Light("isle", 3, 0, 9, "", "bs")]
        service = Service(lights, 2)
        stand = (0, 0, 3, 0, 3, 0, 0, 0)
        self.check(service, FOR_ALL, stand, "s", (0, 0, 2, 1, 3, 1, 0, 1), None)
        self.check(service, FOR_ALL, stand, "b", (0, 0, 3, 1, 2, 1, 0, 1), None)
        self.check(service, FOR_ALL, stand, "a", (0, 0, 2, 1, 3, 1, 0, 1), None)
        self.check(service, FOR_ALL, stand, "c", (0, 0, 3, 1, 3, 1, 0, 1), None)

    def test_the_boat_lands(self):
        service = Service([Light("rock", 3, 0, 9, "la", "s")], 2)
        self.check(service, FOR_ALL, (0, 0, 3, 5), "l", (0, 0, 3, 0), None)
        self.check(service, FOR_ALL, (0, 0, 3, 0), "a", (0, 0, 3, 0), None)
        self.check(service, FOR_ALL, (0, 0, 3, 5), "b", (0, 0, 3, 6), None)

    def test_fewer_seats_than_sick_ones_as_many_and_more(self):
        for seats, well in ((0, 1), (1, 2), (2, 3), (3, 4), (4, 5), (5, 5), (9, 5)):
            service = Service([Light("rock", 5, 0, 9, "l")], seats)
            self.check(service, FOR_ALL, (0, 0, 1, 3), "l", (0, 0, well, 0), None)

    def test_who_falls_sick_that_day_may_be_relieved_that_day(self):
        service = Service([Light("rock", 3, 1, 9, "l", "l")], 1)
        self.check(service, FOR_ALL, (0, 0, 3, 3), "l", (0, 0, 3, 0), None)
        self.check(service, FOR_ALL, (0, 0, 2, 3), "l", (0, 0, 2, 0), None)
        self.check(Service(service.lights(), 2), FOR_ALL, (0, 0, 2, 3), "l", (0, 0, 3, 0), None)

    def test_short_by_keepers(self):
        service = Service([Light("rock", 3, 2, 9, "l", "s")], 1)
        self.check(service, FOR_ALL, (0, 0, 3, 0), "s", (0, 0, 2, 1), None)
        self.check(service, FOR_ALL, (0, 0, 2, 0), "s", (0, 0, 1, 1), ("rock", "keepers"))
        self.check(service, FOR_ALL, (0, 0, 1, 0), "a", (0, 0, 1, 1), ("rock", "keepers"))
        self.check(service, FOR_ALL, (0, 0, 2, 0), "a", (0, 0, 2, 1), None)

    def test_short_by_stores(self):
        service = Service([Light("rock", 3, 2, 9, "l", "s")], 1)
        self.check(service, FOR_ALL, (0, 0, 3, 8), "a", (0, 0, 3, 9), None)
        self.check(service, FOR_ALL, (0, 0, 3, 9), "a", (0, 0, 3, 9), ("rock", "stores"))

    def test_short_by_both(self):
        service = Service([Light("rock", 3, 2, 9, "l", "s")], 1)
        self.check(service, FOR_ALL, (0, 0, 1, 9), "a", (0, 0, 1, 9), ("rock", "keepers"))
        self.check(service, FOR_ALL, (0, 0, 2, 9), "s", (0, 0, 1, 9), ("rock", "keepers"))

    def test_the_boat_lands_on_a_short_day(self):
        service = Service([Light("rock", 3, 2, 9, "ls", "s")], 1)
        self.check(service, FOR_ALL, (0, 0, 3, 9), "l", (0, 0, 3, 0), ("rock", "stores"))
        self.check(service, FOR_ALL, (0, 0, 1, 4), "l", (0, 0, 2, 0), ("rock", "keepers"))
        self.check(service, FOR_ALL, (0, 0, 2, 9), "s", (0, 0, 2, 0), ("rock", "keepers"))

    def test_of_two_lights_the_first_that_is_short(self):
        service = Service([Light("rock", 3, 2, 9), Light("reef", 3, 2, 5)], 1)
        self.check(service, FOR_ALL, (0, 0, 3, 9, 1, 0), "a", (0, 0, 3, 9, 1, 1), ("rock", "stores"))
        self.check(service, FOR_ALL, (0, 0, 1, 0, 3, 5), "a", (0, 0, 1, 1, 3, 5), ("rock", "keepers"))
        self.check(service, FOR_ALL, (0, 0, 3, 0, 1, 5), "a", (0, 0, 3, 1, 1, 5), ("reef", "keepers"))
        self.check(service, FOR_ALL, (0, 0, 3, 8, 3, 5), "a", (0, 0, 3, 9, 3, 5), ("reef", "stores"))
        self.check(service, FOR_ALL, (0, 1, 3, 9, 1, 5), "a", (0, 1, 3, 9, 1, 5), ("rock", "stores"))

    def test_the_light_that_is_next(self):
        lights = [Light("rock", 3, 0, 9, "l"), Light("reef", 3, 0, 9, "l"), Light("isle", 3, 0, 9, "la")]
        service = Service(lights, 1)
        self.check(service, FOR_ALL, (0, 0, 1, 3, 1, 4, 1, 5), "l", (0, 1, 2, 0, 1, 5, 1, 6), None)
        self.check(service, FOR_ALL, (0, 1, 1, 3, 1, 4, 1, 5), "l", (0, 2, 1, 4, 2, 0, 1, 6), None)
        self.check(service, FOR_ALL, (0, 2, 1, 3, 1, 4, 1, 5), "l", (0, 0, 1, 4, 1, 5, 2, 0), None)
        self.check(service, FOR_ALL, (0, 2, 1, 3, 1, 4, 1, 5), "a", (0, 0, 1, 4, 1, 5, 2, 0), None)
        # Where it can't land at the one that is next, it lands nowhere.
        self.check(service, FOR_ALL, (0, 0, 1, 3, 1, 4, 1, 5), "a", (0, 0, 1, 4, 1, 5, 1, 6), None)
        self.check(service, FOR_ALL, (0, 1, 1, 3, 1, 4, 1, 5), "a", (0, 1, 1, 4, 1, 5, 1, 6), None)

    def test_days_are_never_more_than_the_stock(self):
        service = Service([Light("rock", 1, 0, 2, "l"), Light("reef", 1, 0, 1, "l")], 0)
        self.check(service, FOR_ALL, (0, 0, 1, 1, 1, 1), "a", (0, 0, 1, 2, 1, 1), ("reef", "stores"))
        self.check(service, FOR_ALL, (0, 0, 1, 2, 1, 1), "a", (0, 0, 1, 2, 1, 1), ("rock", "stores"))
        self.check(service, FOR_ALL, (0, 0, 1, 2, 1, 1), "l", (0, 1, 1, 0, 1, 1), ("rock", "stores"))

    def test_the_row(self):
        kind = Kind([{"a": 1, "b": 2}, {"a": 2}, {"c": 0, "a": 1}])
        service = Service([Light("rock", 1, 0, 9)], 0)
        for row, letter, after in ((0, "a", 1), (0, "b", 2), (1, "a", 2), (2, "c", 0), (2, "a", 1)):
            self.check(service, kind, (row, 0, 1, 0), letter, (after, 0, 1, 1), None)

    def test_any_thrown_day(self):
        dice = random.Random(41)
        words = set()
        for time in range(3000):
            service, kind = some_service(dice), Kind(some_table(dice, 3, "abc"))
            stand = [dice.randrange(3), dice.randrange(len(service.lights()))]
            for light in service.lights():
                stand += [dice.randrange(light.crew() + 1), dice.randrange(light.stock() + 1)]
            letter = dice.choice(list(kind.table()[stand[0]]))
            told = day(service, kind, tuple(stand), letter)
            self.assertEqual(next_stand(service, kind, tuple(stand), letter), told)
            words.add(told[1] and told[1][1])
        self.assertEqual(words, {None, "keepers", "stores"})


class RefusedDays(unittest.TestCase):
    def setUp(self):
        self.service = Service([Light("rock", 3, 2, 9, "l", "s"), Light("reef", 2, 1, 4, "l", "s")], 2)
        self.kind = Kind([{"a": 1}, {"b": 0, "l": 1}])

    def check(self, error, stand, letter):
        with self.subTest(stand=stand, letter=letter):
            with self.assertRaises(error):
                next_stand(self.service, self.kind, stand, letter)
            with self.assertRaises(error):
                next_stand(letter=letter, stand=stand, kind=self.kind, service=self.service)

    def bad_stands(self):
        good = (0, 0, 3, 0, 2, 0)
        yield from NO_STANDS
        yield list(good)
        yield good[:-1]
        yield good[:2]
        yield good[1:]
        yield good + (0,)
        yield good + (2, 0)
        yield (good,)
        yield (0, 0, (3, 0), (2, 0))
        most = (1, 1, 3, 9, 2, 4)
        for at in range(6):
            for bad in (-1, most[at] + 1, 10**59, True, False, None, "0", "", b"0", [], [0], (), (0,), {}, object()):
                yield good[:at] + (bad,) + good[at + 1:]

    def test_what_is_no_stand(self):
        for stand in self.bad_stands():
            for letter in ("a", "b", "z", "", None, 0, []):
                self.check(NoStand, stand, letter)

    def test_the_bounds_of_a_stand(self):
        self.assertEqual(next_stand(self.service, self.kind, (1, 1, 3, 9, 2, 4), "b"), ((0, 1, 3, 9, 2, 4), ("rock", "stores")))
        self.assertEqual(next_stand(self.service, self.kind, (0, 0, 0, 0, 0, 0), "a"), ((1, 0, 0, 1, 0, 1), ("rock", "keepers")))

    def test_a_stand_of_another_service_or_kind(self):
        self.check(NoStand, (0, 0, 3, 0), "a")
        self.check(NoStand, (2, 0, 3, 0, 2, 0), "a")

    def test_what_is_no_letter(self):
        for letter in (
            "b", "l", "c", "z", "", "A", "aa", "ab", "a ", " ", "\n", "1", None, True, False, 0, 1, b"a", [], ["a"],
            ("a",), {}, {"a": 1}, {"a"}, object(),
        ):
            self.check(NoLetter, (0, 0, 3, 0, 2, 0), letter)
        self.check(NoLetter, (1, 0, 3, 0, 2, 0), "a")
        self.check(NoLetter, (1, 0, 3, 0, 2, 0), "bl")

    def test_what_was_handed_in_stays(self):
        stand = (0, 0, 3, 0, 2, 0)
        for time in range(3):
            self.assertEqual(next_stand(self.service, self.kind, stand, "a"), ((1, 0, 3, 1, 2, 1), None))
            self.assertEqual(stand, (0, 0, 3, 0, 2, 0))
            self.assertEqual(self.kind.table(), [{"a": 1}, {"b": 0, "l": 1}])
            self.assertEqual([light.name() for light in self.service.lights()], ["rock", "reef"])


class Safe(unittest.TestCase):
    def check(self, service, kind, told):
        for answer in (safe(service, kind), safe(service=service, kind=kind), safe(kind=kind, service=service)):
            self.assertEqual(answer, told)
            self.assertIs(type(answer), tuple)

    def test_one_light_that_is_landed_at_in_time(self):
        service = Service([Light("rock", 1, 1, 3, "l")], 0)
        stands = [(0, 0, 1, 0), (1, 0, 1, 1), (2, 0, 1, 2)]
        self.check(service, one_in("al", "l", 3), ("safe", stands))
        # A day more and the boat still lands, but that morning's days are as many as the stock.
        self.check(service, one_in("al", "l", 4), ("short", "aaal", "rock", "stores"))

    def test_stands_are_sorted(self):
        service = Service([Light("rock", 2, 0, 9, "l", "s")], 1)
        kind = Kind([{"l": 2, "s": 1}, {"l": 0}, {"l": 0}])
        # By first weathers: "", l, s; then sl and ll, both with row 0, all well.
        stands = [(0, 0, 2, 0), (1, 0, 1, 1), (2, 0, 2, 0)]
        self.check(service, kind, ("safe", stands))

    def test_short_on_the_first_day(self):
        service = Service([Light("rock", 1, 1, 9, "l", "s")], 1)
        self.check(service, Kind([{"l": 0, "s": 0, "a": 0}]), ("short", "s", "rock", "keepers"))

    def test_the_first_weather_goes_by_days_then_as_a_text(self):
        service = Service([Light("rock", 2, 1, 2, "l", "s")], 0)
        kind = Kind([{"s": 0, "a": 0, "l": 0}])
        self.check(service, kind, ("short", "ss", "rock", "keepers"))
        service = Service([Light("rock", 3, 1, 2, "l", "s")], 0)
        self.check(service, kind, ("short", "aaa", "rock", "stores"))
        self.check(service, Kind([{"s": 0, "l": 0}]), ("short", "ssl", "rock", "stores"))
        self.check(service, Kind([{"l": 1, "s": 1}, {"l": 2, "s": 2}, {"s": 0}]), ("short", "sss", "rock", "keepers"))

    def test_of_two_lights(self):
        lights = [Light("rock", 1, 1, 5, "l", ""), Light("reef", 1, 1, 4, "l", "")]
        self.assertEqual(safe(Service(lights, 0), one_in("al", "l", 2))[0], "safe")
        self.check(Service(lights, 0), one_in("al", "l", 3), ("short", "aalaa", "reef", "stores"))
        self.check(Service(lights[::-1], 0), one_in("al", "l", 3), ("short", "aalaal", "rock", "stores"))

    def test_letters_that_never_come(self):
        service = Service([Light("rock", 1, 1, 2, "l", "x")], 0)
        self.check(service, Kind([{"l": 0}, {"x": 0}]), ("safe", [(0, 0, 1, 0)]))

    def test_against_the_plain_words(self):
        dice = random.Random(42)
        found = {}
        for time in range(1200):
            service, kind = some_service(dice), Kind(some_table(dice, dice.randrange(1, 4), "abc"))
            stands = stands_come_to(service, kind)
            if len(stands) > 2000:
                continue
            told = safe(service, kind)
            if told[0] == "safe":
                self.assertEqual(told, ("safe", sorted(stands)))
                self.assertIsNone(first_short(service, kind, 5))
            else:
                self.assertEqual(told, first_short(service, kind, min(len(told[1]), 7)) or told)
                self.assertEqual(self.days_of(service, kind, told[1]), [None] * (len(told[1]) - 1) + [told[2:]])
            what = told[0] if told[0] == "safe" else told[3]
            found[what] = found.get(what, 0) + 1
        self.assertTrue(all(found.get(what, 0) > 20 for what in ("safe", "keepers", "stores")), found)

    def days_of(self, service, kind, weather):
        """What is told of each day of a weather."""
        stand, told = first_stand(service), []
        for letter in weather:
            stand, word = next_stand(service, kind, stand, letter)
            told.append(word)
        return told

    def test_the_stands_are_counted(self):
        for lead, many in ((2, 4), (2, 5), (3, 4), (7, 11)):
            service, table = three_lights(lead, many)
            told = safe(service, Kind(table))
            self.assertEqual((told[0], len(told[1])), ("safe", lead + 3 * many))

    def test_just_2000_stands(self):
        service, table = three_lights(5, 665)
        told = safe(service, Kind(table))
        self.assertEqual((told[0], len(told[1])), ("safe", 2000))
        self.assertEqual(told[1], sorted(told[1]))
        self.assertIs(shows_safe(service, Kind(table), told[1]), True)

    def test_too_many(self):
        service, table = three_lights(6, 665)
        for ask in (lambda: safe(service, Kind(table)), lambda: safe(kind=Kind(table), service=service)):
            with self.assertRaises(TooMany):
                ask()
        with self.assertRaises(TooMany):
            safe(*[made if at == 0 else Kind(made) for at, made in enumerate(three_lights(0, 1000))])

    def test_too_many_where_another_weather_has_a_short_day(self):
        for lead, told in ((5, ("short", "x", "rock", "keepers")), (6, None)):
            service, table = three_lights(lead, 665)
            for row in (0, 1, lead + 664):
                grown = [dict(each) for each in table]
                grown[row]["x"] = 0
                if told is None:
                    with self.assertRaises(TooMany):
                        safe(service, Kind(grown))
                else:
                    weather = "l" * row + "x"
                    self.assertEqual(safe(service, Kind(grown)), ("short", weather, "rock", "keepers"))

    def test_stands_behind_a_short_day_are_not_counted(self):
        # By an x, which is short, one comes to 900 rows more; without it there are few stands.
        service = Service([Light(name, 1, 1, 9, "l", "x") for name in ("rock", "reef", "isle")], 1)
        table = [{"l": 0, "x": 1}] + [{"l": 1 + (number + 1) % 998} for number in range(998)]
        self.assertEqual(safe(service, Kind(table)), ("short", "x", "rock", "keepers"))

    def test_told_stands_are_the_askers_own(self):
        service, kind = Service([Light("rock", 1, 1, 3, "l")], 0), one_in("al", "l", 3)
        told = safe(service, kind)
        told[1].clear()
        self.check(service, kind, ("safe", [(0, 0, 1, 0), (1, 0, 1, 1), (2, 0, 1, 2)]))

    def test_what_was_handed_in_stays(self):
        lights = [Light("rock", 3, 2, 9, "l", "s"), Light("reef", 2, 1, 4, "l", "s")]
        service, kind = Service(lights, 2), Kind([{"s": 1, "l": 0}, {"l": 0}])
        for ask in (safe, fewest_seats, lambda *both: least_stock(*both, "rock"), lambda *both: shows_safe(*both, [])):
            self.assertEqual(ask(service, kind), ask(service, kind))
            self.assertEqual((service.lights(), service.seats()), (lights, 2))
            self.assertEqual([light.stock() for light in service.lights()], [9, 4])
            self.assertEqual(kind.table(), [{"s": 1, "l": 0}, {"l": 0}])


class ShowsSafe(unittest.TestCase):
    def setUp(self):
        self.service = Service([Light("rock", 3, 1, 5, "l", "s"), Light("reef", 2, 1, 5, "l", "s")], 1)
        self.kind = Kind([{"s": 1, "l": 0}, {"l": 2}, {"l": 0}])
        told = safe(self.service, self.kind)
        self.assertEqual(told[0], "safe")
        self.stands = told[1]

    def check(self, thing, shows):
        for told in (
            shows_safe(self.service, self.kind, thing), shows_safe(service=self.service, kind=self.kind, thing=thing),
            shows_safe(thing=thing, kind=self.kind, service=self.service),
        ):
            self.assertIs(told, shows)

    def test_the_told_stands(self):
        self.assertGreater(len(self.stands), 5)
        self.check(self.stands, True)
        self.check(tuple(self.stands), True)

    def test_in_another_order_and_twice(self):
        self.check(self.stands[::-1], True)
        self.check(self.stands[3:] + self.stands[:3], True)
        self.check(self.stands + self.stands[:1], True)
        self.check(self.stands * 2, True)

    def test_one_left_out(self):
        for at in range(len(self.stands)):
            self.check(self.stands[:at] + self.stands[at + 1:], False)
        self.check(self.stands[:1], False)

    def test_the_first_stand_alone_left_out(self):
        # Nothing leads back to this first stand, so all but it stay among themselves.
        service, kind = Service([Light("rock", 1, 1, 5, "l")], 0), Kind([{"a": 1}, {"l": 2}, {"a": 1}])
        stands = safe(service, kind)[1]
        self.assertEqual(stands, [(0, 0, 1, 0), (1, 0, 1, 1), (2, 0, 1, 0)])
        self.assertIs(shows_safe(service, kind, stands), True)
        self.assertIs(shows_safe(service, kind, stands[1:]), False)

    def test_other_stands_beside(self):
        # From both lights all well, the boat ahead of either, no stores landed for a day: that's safe, too.
        found = 0
        for row in range(3):
            for ahead in range(2):
                for days in range(6):
                    other = (row, ahead, 3, days, 2, days)
                    grown = self.stands + [other]
                    known = set(grown)
                    stays = all(
                        told is None and after in known
                        for after, told in (day(self.service, self.kind, other, letter) for letter in self.kind.table()[row])
                    )
                    self.check(grown, stays)
                    self.check([other] + self.stands, stays)
                    found += stays and other not in self.stands
        self.assertGreater(found, 0)

    def test_a_stand_beside_from_which_a_day_is_short(self):
        self.check(self.stands + [(0, 0, 3, 5, 2, 0)], False)
        self.check(self.stands + [(0, 0, 0, 0, 2, 0)], False)
        self.check(self.stands + [(0, 0, 3, 0, 1, 0)], (0, 0, 3, 0, 1, 0) in self.stands)

    def test_of_a_service_that_is_not_safe(self):
        service, kind = Service([Light("rock", 1, 1, 1, "l")], 0), Kind([{"a": 0, "l": 0}])
        self.assertEqual(safe(service, kind), ("short", "aa", "rock", "stores"))
        every = [(0, 0, well, days) for well in range(2) for days in range(2)]
        for thing in ([], every, every[2:], every[2:3], [(0, 0, 1, 0), (0, 0, 1, 1)]):
            self.assertIs(shows_safe(service, kind, thing), False)

    def test_each_letter_of_a_row_is_gone_by(self):
        service = Service([Light("rock", 1, 1, 5, "al")], 0)
        self.assertIs(shows_safe(service, Kind([{"a": 0, "l": 0}]), [(0, 0, 1, 0)]), True)
        self.assertIs(shows_safe(service, Kind([{"a": 0, "b": 0}]), [(0, 0, 1, 0)]), False)
        self.assertIs(shows_safe(service, Kind([{"b": 0, "a": 0}]), [(0, 0, 1, 0)]), False)
        self.assertIs(shows_safe(service, Kind([{"a": 0, "l": 1}, {"a": 1}]), [(0, 0, 1, 0)]), False)

    def test_what_is_no_list_of_stands(self):
        for thing in NO_STANDS:
            self.check(thing, False)
            if thing != [] and thing != ():
                self.check([thing], False)
            self.check(self.stands + [thing], False)
            self.check([thing] + self.stands, False)
        self.check({stand: True for stand in self.stands}, False)
        self.check(set(self.stands), False)
        self.check(iter(self.stands), False)
        self.check(self.stands[0], False)
        self.check([list(stand) for stand in self.stands], False)
        self.check(self.stands + [list(self.stands[0])], False)
        self.check(("safe", self.stands), False)
        self.check([self.stands], False)

    def test_stands_that_are_none_beside(self):
        for bad in (
            (3, 0, 3, 0, 2, 0), (-1, 0, 3, 0, 2, 0), (0, 2, 3, 0, 2, 0), (0, 0, 4, 0, 2, 0), (0, 0, 3, 6, 2, 0),
            (0, 0, 3, 0, 2), (0, 0, 3, 0, 2, 0, 0), (0, 0, 3, 0, 2, None), (0, 0, 3, 0, 2, "0"), (0, 0, 3, 0, 2, [0]),
        ):
            self.check(self.stands + [bad], False)

    def test_true_is_no_number_of_a_stand(self):
        for stand in self.stands:
            for at, number in enumerate(stand):
                if number in (0, 1):
                    twin = stand[:at] + (bool(number),) + stand[at + 1:]
                    self.check([twin if each == stand else each for each in self.stands], False)
                    self.check(self.stands + [twin], False)

    def test_any_thrown_list(self):
        dice = random.Random(43)
        found = {True: 0, False: 0}
        for time in range(300):
            service, kind = some_service(dice), Kind(some_table(dice, dice.randrange(1, 3), "abc"))
            stands = list(stands_come_to(service, kind))
            if len(stands) > 300:
                continue
            dice.shuffle(stands)
            is_safe = safe(service, kind)[0] == "safe"
            self.assertIs(shows_safe(service, kind, stands), is_safe)
            self.assertIs(shows_safe(service, kind, stands[1:]), False)
            found[is_safe] += 1
        self.assertGreater(min(found.values()), 20, found)

    def test_what_is_handed_in_stays(self):
        thing = self.stands[::-1] + self.stands
        kept = list(thing)
        for time in range(2):
            self.check(thing, True)
            self.assertEqual(thing, kept)
        del thing[0]
        thing.append(None)
        self.check(thing, False)
        self.check(kept, True)


class LeastStock(unittest.TestCase):
    def check(self, service, kind, name, told):
        self.assertEqual(least_stock(service, kind, name), told)
        self.assertEqual(least_stock(service=service, kind=kind, name=name), told)
        self.assertEqual(least_stock(name=name, kind=kind, service=service), told)

    def test_by_the_days_between_landings(self):
        for many in range(1, 31):
            for stock in (1, 7, 30):
                self.check(Service([Light("rock", 1, 1, stock, "l")], 0), one_in("al", "l", many), "rock", many)

    def test_none(self):
        self.check(Service([Light("rock", 1, 1, 30, "l")], 0), one_in("al", "l", 31), "rock", None)
        self.check(Service([Light("rock", 1, 1, 30, "")], 0), one_in("al", "l", 1), "rock", None)
        self.check(Service([Light("rock", 1, 1, 30, "l", "a")], 1), one_in("al", "l", 2), "rock", None)

    def test_30_and_1(self):
        self.check(Service([Light("rock", 1, 1, 1, "l")], 0), one_in("al", "l", 30), "rock", 30)
        self.check(Service([Light("rock", 1, 1, 30, "l")], 0), Kind([{"l": 0}]), "rock", 1)

    def test_of_two_lights(self):
        lights = [Light("rock", 1, 1, 30, "l"), Light("reef", 1, 1, 30, "l")]
        self.check(Service(lights, 0), one_in("al", "l", 3), "rock", 6)
        self.check(Service(lights, 0), one_in("al", "l", 3), "reef", 6)
        # The other one is as it is: with too little of its own there's none.
        short = [Light("rock", 1, 1, 5, "l"), Light("reef", 1, 1, 30, "l")]
        self.check(Service(short, 0), one_in("al", "l", 3), "reef", None)
        self.check(Service(short, 0), one_in("al", "l", 3), "rock", 6)

    def test_so_much_is_safe_and_one_less_is_not(self):
        dice = random.Random(44)
        found = {}
        for time in range(150):
            service, kind = some_service(dice), Kind(some_table(dice, 2, "abc"))
            name = dice.choice(service.lights()).name()
            try:
                told = least_stock(service, kind, name)
            except TooMany:
                continue
            safes = [stock for stock in range(1, 31) if self.is_safe(service, kind, name, stock)]
            self.assertEqual(told, safes[0] if safes else None)
            self.assertEqual(safes, list(range(told, 31)) if told else [])
            found[told] = found.get(told, 0) + 1
        self.assertTrue(len(found) > 3 and None in found, found)

    def is_safe(self, service, kind, name, stock):
        lights = []
        for each in service.lights():
            lasts = stock if each.name() == name else each.stock()
            lights.append(Light(each.name(), each.crew(), each.need(), lasts, each.lands(), each.sicks()))
        return safe(Service(lights, service.seats()), kind)[0] == "safe"

    def test_no_name(self):
        service = Service([Light("rock", 1, 1, 3, "l"), Light("reef", 1, 1, 3, "l")], 0)
        kind = Kind([{"l": 0}])
        for bad in (
            "isle", "", "Rock", "roc", "rockreef", "rock ", None, True, 0, 1, b"rock", [], ["rock"], ("rock",), {}, {"rock": 1},
            {"rock"}, object(), Light("rock", 1, 1, 3, "l"), unittest.mock.ANY,
        ):
            with self.assertRaises(NoName):
                least_stock(service, kind, bad)
            with self.assertRaises(NoName):
                least_stock(service=service, kind=kind, name=bad)

    def test_no_name_goes_first(self):
        service, table = three_lights(6, 665)
        with self.assertRaises(NoName):
            least_stock(service, Kind(table), "cape")

    def test_too_many(self):
        service, table = three_lights(6, 665)
        for name in ("rock", "reef", "isle"):
            with self.assertRaises(TooMany):
                least_stock(service, Kind(table), name)
        service, table = three_lights(5, 665)
        self.assertEqual(least_stock(service, Kind(table), "isle"), 3)

    def test_looked_at_till_one_is_refused(self):
        # With 1 and 2 days are short and stands are few; with 3 there are 2,001 of them.
        service, table = three_lights(6, 665)
        counts = []
        for stock in (1, 2):
            lights = service.lights()[:2] + [Light("isle", 1, 1, stock, "l", "x")]
            counts.append(safe(Service(lights, 1), Kind(table)))
        self.assertEqual(counts, [("short", "ll", "isle", "stores"), ("short", "lll", "isle", "stores")])
        with self.assertRaises(TooMany):
            least_stock(Service(lights, 1), Kind(table), "isle")

    def test_none_is_told_where_another_light_is_short_before_stands_are_many(self):
        service, table = three_lights(6, 665)
        lights = [Light(each.name(), 1, 1, 1 if each.name() == "reef" else 9, "l", "x") for each in service.lights()]
        self.assertIsNone(least_stock(Service(lights, 1), Kind(table), "isle"))


class FewestSeats(unittest.TestCase):
    def check(self, service, kind, told):
        self.assertEqual(fewest_seats(service, kind), told)
        self.assertEqual(fewest_seats(service=service, kind=kind), told)
        self.assertEqual(fewest_seats(kind=kind, service=service), told)

    def test_by_those_who_fall_sick_between_landings(self):
        for many in range(9):
            # So many fall sick on end, then the boat comes; all of them are to be relieved.
            table = [{"s": number + 1} for number in range(many)] + [{"l": 0}]
            for seats in (0, 9):
                self.check(Service([Light("rock", 9, 9 - many, 30, "l", "s")], seats), Kind(table), many)

    def test_0(self):
        self.check(Service([Light("rock", 3, 3, 9, "l")], 9), one_in("al", "l", 9), 0)

    def test_none(self):
        self.check(Service([Light("rock", 3, 3, 9, "l", "s")], 9), Kind([{"l": 0, "s": 0}]), None)
        self.check(Service([Light("rock", 3, 0, 9, "")], 9), Kind([{"l": 0}]), None)

    def test_so_many_are_safe_and_one_fewer_are_not(self):
        dice = random.Random(45)
        found = {}
        for time in range(300):
            service, kind = some_service(dice), Kind(some_table(dice, 2, "abc"))
            try:
                told = fewest_seats(service, kind)
                safes = [seats for seats in range(10) if safe(Service(service.lights(), seats), kind)[0] == "safe"]
            except TooMany:
                continue
            self.assertEqual(told, safes[0] if safes else None)
            self.assertEqual(safes, list(range(told, 10)) if told is not None else [])
            found[told] = found.get(told, 0) + 1
        self.assertTrue(all(found.get(told, 0) > 3 for told in (None, 0, 1)), found)

    def test_too_many(self):
        service, table = three_lights(6, 665)
        with self.assertRaises(TooMany):
            fewest_seats(service, Kind(table))
        service, table = three_lights(5, 665)
        self.assertEqual(fewest_seats(service, Kind(table)), 0)

    def test_too_many_with_fewer_than_would_be_safe(self):
        # Without seats who has fallen sick stays so, and each number of well ones comes with each row.
        table = [{"l": 1, "s": 1}] + [{"l": (number + 1) % 300} for number in range(1, 300)]
        lights = [Light("rock", 9, 0, 9, "l", "s")]
        self.assertEqual(safe(Service(lights, 9), Kind(table))[0], "safe")
        with self.assertRaises(TooMany):
            safe(Service(lights, 0), Kind(table))
        for seats in (0, 9):
            with self.assertRaises(TooMany):
                fewest_seats(Service(lights, seats), Kind(table))

    def test_too_many_with_more_than_are_told_has_no_bearing(self):
        # All fall sick first; without seats none is ever well again, with one their number goes up and down.
        table = [{"s": number + 1} for number in range(9)]
        table += [{"l": 10 + number, "s": 10 + number} if number % 2 else {"l": 10 + number} for number in range(399)]
        table += [{"l": 9}]
        lights = [Light("rock", 9, 0, 30, "l", "s")]
        self.assertEqual(safe(Service(lights, 0), Kind(table))[0], "safe")
        with self.assertRaises(TooMany):
            safe(Service(lights, 1), Kind(table))
        for seats in (0, 1):
            self.check(Service(lights, seats), Kind(table), 0)


if __name__ == "__main__":
    unittest.main()
