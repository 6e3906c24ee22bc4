"""A book of who is where from which day on, and of stores landed, as known on any day."""

from lightturns.checks import check_day, check_days, check_light, check_number, check_place
from lightturns.errors import Early, NoKeeper, NoRanks
from lightturns.histories import History
from lightturns.names import is_name
from lightturns.places import ASHORE
from lightturns.wholes import is_within

MOST_KEEPERS = 30
HIGHEST_RANK = 1
LOWEST_RANK = 9


class Book:
    """Keepers with their ranks, and what was told of their moves and of landings, on known days."""

    def __init__(self, ranks):
        if not are_ranks(ranks):
            raise NoRanks("a book is made of a dict of at most thirty keepers, from names to ranks from 1 to 9")
        self.rank_of = dict(ranks)
        self.moves = {keeper: History() for keeper in ranks}
        self.landings = {}
        self.latest_known = None

    def ranks(self):
        """The rank of each keeper."""
        return dict(self.rank_of)

    def tell(self, known, keeper, day, place):
        """Hold, on a known day, that a keeper moves to a place on a day; None: that there's no such move."""
        check_day(known)
        check_day(day)
        check_keeper(self, keeper)
        if place is not None:
            check_place(place)
        check_not_early(self, known)
        self.moves[keeper].note(known, day, place)
        self.latest_known = known

    def land(self, known, light, day, weight):
        """Hold, on a known day, that stores of that weight are landed at a light on a day."""
        check_day(known)
        check_day(day)
        check_light(light)
        check_number(weight, 0)
        check_not_early(self, known)
        if light not in self.landings:
            self.landings[light] = History()
        self.landings[light].note(known, day, weight)
        self.latest_known = known

    def last_known(self):
        """The last day on which it was told something, None where it never was."""
        return self.latest_known

    def where(self, keeper, day, known=None):
        """The place where a keeper is on a day, as known."""
        check_keeper(self, keeper)
        check_days(day, known)
        place = ASHORE
        for first, moved_to in self.moves_known(keeper, known):
            if first <= day:
                place = moved_to
        return place

    def landed(self, light, day, known=None):
        """The weight of stores landed at a light on a day, as known."""
        check_light(light)
        check_days(day, known)
        return dict(self.landings_known(light, known)).get(day, 0)

    def moves_known(self, keeper, known):
        """The moves of a keeper that hold, as known, as tuples (day, place), by rising days."""
        return self.moves[keeper].holding(known)

    def landings_known(self, light, known):
        """The landings at a light that hold, as known, as tuples (day, weight), by rising days."""
        return self.landings[light].holding(known) if light in self.landings else []

    def entries(self):
        """All that it holds, sorted."""
        told = []
        for light, history in self.landings.items():
            told += [("land", known, light, day, weight) for known, day, weight in history.all_told()]
        for keeper, history in self.moves.items():
            told += [("move", known, keeper, day, place) for known, day, place in history.all_told()]
        # No two have the first four alike, so the fifth, which may be None, needn't be compared.
        return sorted(told, key=lambda entry: entry[:4])

    def twin(self):
        """A book just like it, of its own."""
        return book_of(self.rank_of, self.entries())

    def __eq__(self, other):
        return isinstance(other, Book) and self.rank_of == other.rank_of and self.entries() == other.entries()

    def __len__(self):
        return len(self.entries())


def book_of(ranks, entries):
    """The book of these ranks and entries, whatever order they come in."""
    book = Book(ranks)
    # A book is told nothing early, so what was known first is told first.
    for word, known, who, day, what in sorted(entries, key=lambda entry: entry[1]):
        if word == "land":
            book.land(known, who, day, what)
        else:
            book.tell(known, who, day, what)
    return book


def check_keeper(book, thing):
    """Refuse what is none of the book's keepers."""
    if not is_name(thing) or thing not in book.rank_of:
        raise NoKeeper("none of the book's keepers is called so")


def check_not_early(book, known):
    """Refuse a known day that is less than the last one."""
    if book.latest_known is not None and known < book.latest_known:
        raise Early(book.latest_known)


def are_ranks(thing):
    """Is it a dict of at most thirty keepers, from names to ranks?"""
    if not isinstance(thing, dict) or len(thing) > MOST_KEEPERS:
        return False
    return all([is_name(name) and is_within(rank, HIGHEST_RANK, LOWEST_RANK) for name, rank in thing.items()])
