"""Books for the tests, and the plain words of [25] to [28] by going through day by day."""

from lightturns.book import Book

FAR = 10**59
NO_WHOLES = (True, False, None, "", "1", b"1", [], [1], (), (1,), {}, {1: 1}, {1}, object(), Book)
NO_DAYS = (-1, -FAR, *NO_WHOLES)
# A known day may be None.
NO_KNOWNS = tuple(bad for bad in NO_DAYS if bad is not None)
NO_NAMES = (
    "", "Rock", "rOck", "a b", "abcdefghi", "rock1", "rock\n", " rock", "-", "?", None, True, False, 0, 1, b"rock", [],
    ["rock"], ("rock",), {}, {"rock": 1}, {"rock"}, object(), Book,
)
# Ashore is a place.
NO_PLACES = tuple(bad for bad in NO_NAMES if bad != "")
RANKS = {"ann": 2, "bob": 1, "cat": 2}


class Plain:
    """All that was told, in its order; whatever is asked is found by going through it, and through days."""

    def __init__(self, ranks):
        self.ranks = dict(ranks)
        self.told = []

    def book(self):
        book = Book(self.ranks)
        for word, known, who, day, what in self.told:
            (book.tell if word == "move" else book.land)(known, who, day, what)
        return book

    def held(self, word, who, day, known):
        last = None
        for each_word, each_known, each_who, each_day, what in self.told:
            if (each_word, each_who, each_day) == (word, who, day) and (known is None or each_known <= known):
                last = what
        return last

    def where(self, keeper, day, known=None):
        for each in range(day, -1, -1):
            place = self.held("move", keeper, each, known)
            if place is not None:
                return place
        return ""

    def landed(self, light, day, known=None):
        return self.held("land", light, day, known) or 0

    def heads(self, light, day, known=None):
        return sum(self.where(keeper, day, known) == light for keeper in self.ranks)


def some_plain(dice, ranks=RANKS, most=12, days=9, lights=("rock", "reef")):
    """A plain book thrown with dice: up to so many things told, of so many days."""
    plain = Plain(ranks)
    known = dice.randrange(3)
    for number in range(dice.randrange(most + 1)):
        known += dice.randrange(3)
        day = dice.randrange(days)
        if plain.ranks and dice.randrange(3) > 0:
            place = dice.choice([*lights, *lights, "", None])
            plain.told.append(("move", known, dice.choice(list(plain.ranks)), day, place))
        else:
            plain.told.append(("land", known, dice.choice(lights), day, dice.randrange(9)))
    return plain


def knowns_of(plain):
    """None, and each known day from 0 to one behind all that was told."""
    return [None, *range(max([entry[1] for entry in plain.told], default=0) + 2)]


def days_of(stretches, most):
    """The days up to the most that a list of stretches has."""
    return [day for day in range(most + 1) if any(stretch.has(day) for stretch in stretches)]


def told_book(ranks, *rows):
    """A book told moves (known, keeper, day, place) and landings (known, light, day, weight)."""
    book = Book(ranks)
    for known, who, day, what in rows:
        (book.land if type(what) is int else book.tell)(known, who, day, what)
    return book


def state(book):
    """All that a book tells of itself."""
    return (book.ranks(), book.entries(), book.last_known(), len(book))
