"""Turns of keepers at places, and what is known otherwise on another day."""

from lightturns.book import check_keeper
from lightturns.checks import check_day, check_days, check_known, check_place
from lightturns.errors import NoDay
from lightturns.places import ASHORE
from lightturns.runs import runs_of


def turns(book, keeper, known=None):
    """The turns of a keeper, as known, as tuples (place, stretch), from day 0 on."""
    check_keeper(book, keeper)
    check_known(known)
    return runs_of(ASHORE, book.moves_known(keeper, known))


def keepers_at(book, place, day, known=None):
    """The keepers at a place on a day, as known, in order of charge."""
    check_place(place)
    check_days(day, known)
    charges = []
    for keeper, rank in book.ranks().items():
        for there, stretch in turns(book, keeper, known):
            if there == place and stretch.has(day):
                charges.append((rank, stretch.first(), keeper))
    return [keeper for rank, first, keeper in sorted(charges)]


def came(book, place, day, known=None):
    """Those at a place on a day, as known, who weren't there the day before, by name."""
    check_place(place)
    check_days(day, known)
    before = names_before(book, place, day, known)
    return [keeper for keeper in names_at(book, place, day, known) if keeper not in before]


def went(book, place, day, known=None):
    """Those at a place the day before, as known, who aren't there on the day, by name."""
    check_place(place)
    check_days(day, known)
    now = names_at(book, place, day, known)
    return [keeper for keeper in names_before(book, place, day, known) if keeper not in now]


def names_at(book, place, day, known):
    """Those at a place on a day, as known, by name."""
    return [keeper for keeper in sorted(book.ranks()) if book.where(keeper, day, known) == place]


def names_before(book, place, day, known):
    """Those at a place on the day before a day, as known, by name; before day 0 nobody is anywhere."""
    return [] if day == 0 else names_at(book, place, day - 1, known)


def changed(book, before, after):
    """On which days keepers are elsewhere, as known on after, than as known on before: tuples (keeper, stretches)."""
    check_day(before)
    check_day(after)
    if after < before:
        raise NoDay("the known day that is compared with is no less than the other")
    told = [(keeper, days_elsewhere(book, keeper, before, after)) for keeper in sorted(book.ranks())]
    return [(keeper, days) for keeper, days in told if days]


def days_elsewhere(book, keeper, before, after):
    """The days on which a keeper is elsewhere as known on the one day than as known on the other."""
    firsts = [stretch.first() for place, stretch in turns(book, keeper, before) + turns(book, keeper, after)]
    changes = []
    for day in sorted(firsts):
        changes.append((day, book.where(keeper, day, before) != book.where(keeper, day, after)))
    return [stretch for elsewhere, stretch in runs_of(False, changes) if elsewhere]
