"""A desk that is told rows and answers them by texts."""

from lightturns.book import Book
from lightturns.booktexts import book_text
from lightturns.deskrows import read_row
from lightturns.errors import NoSuch
from lightturns.joined import joined
from lightturns.lights import Light, Service
from lightturns.makings import never_more, one_in
from lightturns.owed import days_owed
from lightturns.pairs import beyond, both_kinds, either_kind
from lightturns.stores import unfed
from lightturns.turns import keepers_at, turns
from lightturns.watch import safe
from lightturns.words import place_word, read_place

DONE = "ok"
NOTHING = "-"


def make_book(desk, name, *keepers):
    """Keep a new book of keepers, each a name with a rank behind it."""
    return desk.keep("BOOK", name, Book(dict(zip(keepers[::2], keepers[1::2]))))


def tell_move(desk, book, known, keeper, day, place):
    """Tell a book a move."""
    book.tell(known, keeper, day, place)
    return DONE


def tell_landing(desk, book, known, light, day, weight):
    """Tell a book a landing."""
    book.land(known, light, day, weight)
    return DONE


def join_books(desk, book, other, name):
    """Keep two books joined."""
    return desk.keep("BOOK", name, joined(book, other))


def show_book(desk, book):
    """The text of a book."""
    return book_text(book) or NOTHING


def say_where(desk, book, keeper, day, known=None):
    """Where a keeper is."""
    return place_word(book.where(keeper, day, known))


def say_at(desk, book, place, day, known=None):
    """Who is at a place."""
    return in_words(keepers_at(book, place, day, known))


def say_turns(desk, book, keeper, known=None):
    """The turns of a keeper."""
    return in_words([f"{place_word(place)}:{str(stretch)}" for place, stretch in turns(book, keeper, known)])


def say_owed(desk, book, keeper, day, term, leave, known=None):
    """The days owed to a keeper."""
    return in_words([str(stretch) for stretch in days_owed(book, keeper, day, term, leave, known)])


def say_unfed(desk, book, light, ration, known=None):
    """The first day that is unfed at a light, and what is lacking."""
    found = unfed(book, light, ration, known)
    return NOTHING if found is None else f"{found[0]} {found[1]}"


def make_never_more(desk, name, letters, letter, many):
    """Keep a new kind with never more than so many of a letter on end."""
    return desk.keep("KIND", name, never_more(letters, letter, many))


def make_one_in(desk, name, letters, letter, many):
    """Keep a new kind with one of a letter in so many."""
    return desk.keep("KIND", name, one_in(letters, letter, many))


def make_both(desk, name, kind, other):
    """Keep a new kind of what is of both."""
    return desk.keep("KIND", name, both_kinds(kind, other))


def make_either(desk, name, kind, other):
    """Keep a new kind of what is of either."""
    return desk.keep("KIND", name, either_kind(kind, other))


def say_beyond(desk, kind, other):
    """The first weather of a kind that isn't of the other."""
    found = beyond(kind, other)
    return NOTHING if found is None else found


def make_light(desk, name, crew, need, stock, lands, sicks):
    """Keep a new light."""
    return desk.keep("LIGHT", name, Light(name, crew, need, stock, lands, sicks))


def say_safe(desk, kind, seats, *lights):
    """Whether lights are ever short under a kind."""
    told = safe(Service(lights, seats), kind)
    return f"safe {len(told[1])}" if told[0] == "safe" else in_words(told)


def in_words(words):
    """The words of an answer, with one blank between."""
    return " ".join(words) or NOTHING


ACTIONS = {
    "book NEW KEEPERS": make_book,
    "tell BOOK NUMBER WORD NUMBER PLACE": tell_move,
    "land BOOK NUMBER WORD NUMBER NUMBER": tell_landing,
    "join BOOK BOOK NEW": join_books,
    "show BOOK": show_book,
    "where BOOK WORD NUMBER NUMBER?": say_where,
    "at BOOK PLACE NUMBER NUMBER?": say_at,
    "turns BOOK WORD NUMBER?": say_turns,
    "owed BOOK WORD NUMBER NUMBER NUMBER NUMBER?": say_owed,
    "unfed BOOK WORD NUMBER NUMBER?": say_unfed,
    "kind NEW more WORD WORD NUMBER": make_never_more,
    "kind NEW one WORD WORD NUMBER": make_one_in,
    "kind NEW both KIND KIND": make_both,
    "kind NEW either KIND KIND": make_either,
    "beyond KIND KIND": say_beyond,
    "light NEW NUMBER NUMBER NUMBER LETTERS LETTERS": make_light,
    "safe KIND NUMBER LIGHT LIGHT? LIGHT?": say_safe,
}


class Desk:
    """Books, kinds of weather and lights, each sort by names, and answers to rows about them."""

    def __init__(self):
        self.shelves = {"BOOK": {}, "KIND": {}, "LIGHT": {}}

    def say(self, row):
        """The answer to a row."""
        form, slots, words = read_row(row, list(ACTIONS))
        worths = [self.worth_of(slot, word) for slot, word in zip(slots, words) if slot.isupper()]
        action = ACTIONS[form]
        return action(self, *worths)

    def worth_of(self, slot, word):
        """What a word stands for in a slot."""
        if slot in self.shelves:
            if word not in self.shelves[slot]:
                raise NoSuch(word)
            return self.shelves[slot][word]
        if slot == "NUMBER":
            return int(word)
        if slot == "PLACE":
            return read_place(word)
        return "" if slot == "LETTERS" and word == NOTHING else word

    def keep(self, sort, name, thing):
        """Keep what was made by a name, in place of another of its sort; told is that it's done."""
        self.shelves[sort][name] = thing
        return DONE
