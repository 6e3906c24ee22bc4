"""The refusals: what each stands under, and its field."""

import unittest

from lightturns import errors

UNDER_WRONG = (
    "NoDay NoName NoStretches NoKind NoLetters NoLetter NoNumber NoBoat NoStores NoRound NoSlot NoLight "
    "NoService NoStand NoRanks NoKeeper NoPlace NoNames NoText NoRow NoSuch"
).split()
UNDER_BARRED = "NoWeather TooMany Small Early Clash".split()
FIELDS = {
    "NoBoat": "field",
    "NoRound": "field",
    "NoLight": "field",
    "NoService": "field",
    "NoSuch": "word",
    "Early": "latest",
    "Clash": "clashes",
}
WORTHS = {
    "NoBoat": "seats",
    "NoRound": "begins",
    "NoLight": "crew",
    "NoService": "lights",
    "NoSuch": "skerry",
    "Early": 10**59,
    "Clash": [("keeper", "ann"), ("land", 1, "skerry", 2)],
}
ALL = ["LightsError", "Wrong", "Barred", *UNDER_WRONG, *UNDER_BARRED]


def class_of(name):
    return getattr(errors, name)


class WhatTheyStandUnder(unittest.TestCase):
    def test_the_first_three(self):
        self.assertEqual(errors.LightsError.__bases__, (ValueError,))
        self.assertEqual(errors.Wrong.__bases__, (errors.LightsError,))
        self.assertEqual(errors.Barred.__bases__, (errors.LightsError,))

    def test_straight_under_wrong(self):
        for name in UNDER_WRONG:
            with self.subTest(name):
                self.assertEqual(class_of(name).__bases__, (errors.Wrong,))

    def test_straight_under_barred(self):
        for name in UNDER_BARRED:
            with self.subTest(name):
                self.assertEqual(class_of(name).__bases__, (errors.Barred,))

    def test_under_no_other_one(self):
        above = {"LightsError": [], "Wrong": ["LightsError"], "Barred": ["LightsError"]}
        above.update({name: ["LightsError", "Wrong"] for name in UNDER_WRONG})
        above.update({name: ["LightsError", "Barred"] for name in UNDER_BARRED})
        for name in ALL:
            for other in ALL:
                with self.subTest(name, other=other):
                    stands = other == name or other in above[name]
                    self.assertIs(issubclass(class_of(name), class_of(other)), stands)

    def test_each_is_one_of_its_own_in_this_file(self):
        self.assertEqual(len({class_of(name) for name in ALL}), len(ALL))
        for name in ALL:
            with self.subTest(name):
                self.assertEqual(class_of(name).__name__, name)
                self.assertEqual(class_of(name).__module__, "lightturns.errors")


class WhatTheyAreMadeOf(unittest.TestCase):
    def test_words_or_nothing(self):
        for name in ALL:
            if name in FIELDS:
                continue
            with self.subTest(name):
                self.assertIsInstance(class_of(name)(), errors.LightsError)
                self.assertEqual(str(class_of(name)("some words")), "some words")

    def test_a_field_by_place_and_by_name(self):
        for name, field in FIELDS.items():
            with self.subTest(name):
                worth = WORTHS[name]
                self.assertEqual(getattr(class_of(name)(worth), field), worth)
                self.assertEqual(getattr(class_of(name)(**{field: worth}), field), worth)

    def test_each_has_a_field_of_its_own(self):
        one, other = errors.NoBoat("seats"), errors.NoBoat("man")
        self.assertEqual((one.field, other.field), ("seats", "man"))

    def test_a_field_is_not_left_out(self):
        for name in FIELDS:
            with self.subTest(name), self.assertRaises(TypeError):
                class_of(name)()

    def test_fields_are_there_when_caught(self):
        for name, field in FIELDS.items():
            with self.subTest(name):
                with self.assertRaises(errors.LightsError) as caught:
                    raise class_of(name)(WORTHS[name])
                self.assertEqual(getattr(caught.exception, field), WORTHS[name])

    def test_clashes_stay_whatever_is_done_to_the_list_handed_in(self):
        handed = [("keeper", "ann")]
        clash = errors.Clash(handed)
        handed.append(("keeper", "bob"))
        self.assertEqual(clash.clashes, [("keeper", "ann")])
        clash.clashes.clear()
        self.assertEqual(handed, [("keeper", "ann"), ("keeper", "bob")])


if __name__ == "__main__":
    unittest.main()
