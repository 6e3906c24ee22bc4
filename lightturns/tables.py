"""Tables of kinds of weather: rows that lead, letter by letter, to rows."""

from lightturns.letters import is_letter
from lightturns.walks import Walk
from lightturns.wholes import is_within

MOST_ROWS = 1000


def is_table(thing):
    """Is it a list of one to a thousand rows?"""
    if not isinstance(thing, (list, tuple)):
        return False
    if not 1 <= len(thing) <= MOST_ROWS:
        return False
    return all([is_row(row, len(thing)) for row in thing])


def is_row(thing, many):
    """Is it a row of a table of so many?"""
    if not isinstance(thing, dict) or len(thing) == 0:
        return False
    return all([is_letter(letter) and is_within(leads, 0, many - 1) for letter, leads in thing.items()])


def rising(table):
    """A table of its own, the letters of each row rising, as a walk wants them."""
    return [{letter: row[letter] for letter in sorted(row)} for row in table]


def first_beyond(rows, others):
    """The first weather of the one table that is not of the other, or None.

    The letters of the rows rise, so the first way out of the other table that
    is met ends the first such weather.
    """
    walk = Walk((0, 0))
    at = 0
    while at < len(walk.places):
        here, there = walk.places[at]
        other = others[there]
        for letter, leads in rows[here].items():
            if letter not in other:
                return walk.weather_to(at) + letter
            walk.meet((leads, other[letter]), at, letter)
        at += 1
    return None


def alike(rows, others):
    """Is each weather of either table of the other one?"""
    return first_beyond(rows, others) is None and first_beyond(others, rows) is None
