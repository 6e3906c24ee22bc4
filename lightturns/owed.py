"""Days over that keepers are owed, and those given back ashore."""

from lightturns.book import check_keeper
from lightturns.checks import check_days, check_number
from lightturns.places import ASHORE
from lightturns.runs import runs_of
from lightturns.stretches import Stretch, earlier_end
from lightturns.turns import turns


def days_over(book, keeper, day, term, known=None):
    """The days over of a keeper, up to a day, as known."""
    check_keeper(book, keeper)
    check_days(day, known)
    check_number(term, 0)
    over = []
    for out, spell in spells(book, keeper, day, known):
        if out:
            over += days_behind(spell, term)
    return over


def days_owed(book, keeper, day, term, leave=0, known=None):
    """The days over that are owed to a keeper at a day's end, as known."""
    return settled(book, keeper, day, term, leave, known)[0]


def days_given(book, keeper, day, term, leave=0, known=None):
    """What was given back to a keeper up to a day, as known, as tuples (over, given, many)."""
    return settled(book, keeper, day, term, leave, known)[1]


def settled(book, keeper, day, term, leave, known):
    """The days owed at a day's end, and what was given back up to it."""
    check_keeper(book, keeper)
    check_days(day, known)
    check_number(term, 0)
    check_number(leave, 0)
    owed = []
    given = []
    for out, spell in spells(book, keeper, day, known):
        if out:
            owed = owed + days_behind(spell, term)
        else:
            for free in days_behind(spell, leave):
                owed = given_back(owed, free, given)
    return (owed, given)


def given_back(owed, free, given):
    """What is owed still when free days have given back the oldest; what they gave back is put to what was given.

    Spells have a day between them that is of another sort; so what one piece
    gives back never goes on in the next one, both over and given.
    """
    rest = list(owed)
    day = free.first()
    while rest and day <= free.last():
        oldest = rest[0]
        many = min(oldest.last() - oldest.first(), free.last() - day) + 1
        given.append((oldest.first(), day, many))
        rest = days_behind(oldest, many) + rest[1:]
        day += many
    return rest


def spells(book, keeper, day, known):
    """The spells of a keeper up to a day, as known, in order, as tuples (is it one out, stretch)."""
    changes = [(stretch.first(), place != ASHORE) for place, stretch in turns(book, keeper, known)]
    found = [(out, spell) for out, spell in runs_of(False, changes) if spell.first() <= day]
    return [(out, Stretch(spell.first(), earlier_end(spell.last(), day))) for out, spell in found]


def days_behind(stretch, many):
    """The days of a stretch behind its first so many, as a list of one stretch or none."""
    first = stretch.first() + many
    return [Stretch(first, stretch.last())] if first <= stretch.last() else []
