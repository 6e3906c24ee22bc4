"""The names of the interface, each defined in its own file, with its arguments by name and its defaults."""

import importlib
import inspect
import unittest

FUNCTIONS = {
    "names": ["is_name(thing)"],
    "stretches": [
        "days_in(some)", "either_days(some, others)", "both_days(some, others)", "only_days(some, others)", "many_days(some)",
    ],
    "pairs": ["beyond(kind, other)", "both_kinds(kind, other)", "either_kind(kind, other)"],
    "makings": ["never_more(letters, letter, many)", "one_in(letters, letter, many)"],
    "boats": [
        "barred(boat, goings, out, back=0, stores=None)", "fewest(boat, out, back=0, stores=None)", "loads(boat, out, back=0, stores=None)",
    ],
    "rounds": ["even_round(on, off, many)", "keeping(many, on, off)"],
    "watch": [
        "first_stand(service)", "next_stand(service, kind, stand, letter)", "safe(service, kind)", "shows_safe(service, kind, thing)",
        "least_stock(service, kind, name)", "fewest_seats(service, kind)",
    ],
    "turns": [
        "turns(book, keeper, known=None)", "keepers_at(book, place, day, known=None)", "came(book, place, day, known=None)",
        "went(book, place, day, known=None)", "changed(book, before, after)",
    ],
    "owed": [
        "days_over(book, keeper, day, term, known=None)", "days_owed(book, keeper, day, term, leave=0, known=None)",
        "days_given(book, keeper, day, term, leave=0, known=None)",
    ],
    "stores": [
        "heads(book, light, known=None)", "left_over(book, light, ration, day, known=None)", "unfed(book, light, ration, known=None)",
        "weight_wanted(book, light, ration, till, known=None)", "landing(book, boat, light, day, known=None)",
    ],
    "joined": ["clashes(one, other)", "joined(one, other)", "told_round(round_of, names, place, first=0, slot=1, slots=1)"],
    "booktexts": ["book_text(book)", "read_book(text)"],
}
CLASSES = {
    "stretches": {"Stretch(first, last=None)": ["first()", "last()", "has(day)", "__eq__(other)", "__repr__()", "__str__()"]},
    "kinds": {"Kind(table)": ["table()", "after(weather)", "__eq__(other)", "__len__()"]},
    "boats": {"Boat(seats, carries, man)": ["seats()", "carries()", "man()"]},
    "rounds": {
        "Round(on, off, begins)": [
            "on()", "off()", "begins()", "on_in(slot)", "least()", "moved(by)", "__eq__(other)", "__len__()", "__repr__()",
        ],
    },
    "lights": {
        "Light(name, crew, need, stock, lands='', sicks='')": [
            "name()", "crew()", "need()", "stock()", "lands()", "sicks()", "__eq__(other)",
        ],
        "Service(lights, seats)": ["lights()", "seats()"],
    },
    "book": {
        "Book(ranks)": [
            "ranks()", "tell(known, keeper, day, place)", "land(known, light, day, weight)", "last_known()",
            "where(keeper, day, known=None)", "landed(light, day, known=None)", "entries()", "twin()", "__eq__(other)", "__len__()",
        ],
    },
    "desk": {"Desk()": ["say(row)"]},
}


def module_of(name):
    return importlib.import_module("lightturns." + name)


def signature(thing):
    return str(inspect.signature(thing))


class Interface(unittest.TestCase):
    def test_functions(self):
        for file, texts in FUNCTIONS.items():
            for text in texts:
                with self.subTest(file, function=text):
                    name = text.partition("(")[0]
                    function = getattr(module_of(file), name)
                    self.assertTrue(inspect.isfunction(function))
                    self.assertEqual(function.__module__, "lightturns." + file)
                    self.assertEqual(name + signature(function), text)

    def test_classes(self):
        for file, classes in CLASSES.items():
            for text, methods in classes.items():
                name = text.partition("(")[0]
                made = getattr(module_of(file), name)
                with self.subTest(file, made=name):
                    self.assertTrue(inspect.isclass(made))
                    self.assertEqual(made.__module__, "lightturns." + file)
                    self.assertEqual(name + signature(made), text)
                for method in methods:
                    with self.subTest(file, made=name, method=method):
                        # Defined in the class itself, not only in a base class.
                        own = vars(made)[method.partition("(")[0]]
                        told = signature(own).replace("(self, ", "(").replace("(self)", "()")
                        self.assertEqual(own.__name__ + told, method)


if __name__ == "__main__":
    unittest.main()
