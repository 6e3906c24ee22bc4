"""Two books made one, and books made of rounds of turns."""

from lightturns.book import MOST_KEEPERS, Book, book_of
from lightturns.checks import check_day, check_number
from lightturns.errors import Clash, NoNames, NoPlace, TooMany
from lightturns.names import is_name
from lightturns.places import ASHORE

MOST_MOVES = 100


def clashes(one, other):
    """What two books were told on the same known day, but otherwise, and keepers of unlike ranks, sorted."""
    ranks = one.ranks()
    others = other.ranks()
    told = [("keeper", name) for name in ranks if name in others and ranks[name] != others[name]]
    held = {entry[:4]: entry[4] for entry in one.entries()}
    told += [entry[:4] for entry in other.entries() if entry[:4] in held and held[entry[:4]] != entry[4]]
    return sorted(told)


def joined(one, other):
    """A new book with the keepers and the entries of both."""
    found = clashes(one, other)
    if found:
        raise Clash(found)
    ranks = {**one.ranks(), **other.ranks()}
    if len(ranks) > MOST_KEEPERS:
        raise TooMany("both books together have more than thirty keepers")
    return book_of(ranks, one.entries() + other.entries())


def told_round(round_of, names, place, first=0, slot=1, slots=1):
    """A book of the moves of a round's keepers, by these names, to a light and ashore, for so many slots."""
    if not are_names(names, len(round_of)):
        raise NoNames("names are a list of unlike ones, as many as the round's keepers, thirty at most")
    if not is_name(place):
        raise NoPlace("a round is told of a light, by its name")
    check_day(first)
    check_number(slot, 1)
    check_number(slots, 0)
    moves = []
    for name, begin in zip(names, round_of.begins()):
        for start, behind in times_on(round_of, begin, slots):
            moves += [(name, start, place), (name, behind, ASHORE)]
    if len(moves) > MOST_MOVES:
        raise TooMany("the round has more than a hundred moves")
    book = Book({name: 1 for name in names})
    for name, number, goes_to in moves:
        book.tell(0, name, first + number * slot, goes_to)
    return book


def times_on(round_of, begin, slots):
    """The times on of a keeper within so many slots, as tuples (first slot, slot behind the last).

    There may be very many slots: no more times are told than are enough to be
    refused.
    """
    if round_of.off() == 0:
        return [(0, slots)] if slots > 0 else []
    whole = round_of.on() + round_of.off()
    times = []
    # Whoever is on in slot 0 may have begun ahead of it.
    start = begin - whole
    while start < slots and len(times) <= MOST_MOVES:
        behind = min(start + round_of.on(), slots)
        if behind > 0:
            times.append((max(start, 0), behind))
        start += whole
    return times


def are_names(thing, many):
    """Is it a list of so many unlike names, thirty at most?"""
    if not isinstance(thing, (list, tuple)) or len(thing) != many or many > MOST_KEEPERS:
        return False
    return all([is_name(name) for name in thing]) and len(set(thing)) == many
