"""What is no such thing, refused alike wherever it's handed in."""

from lightturns.errors import NoDay, NoName, NoNumber, NoPlace
from lightturns.names import is_name
from lightturns.places import is_place
from lightturns.wholes import is_day, is_from


def check_day(thing):
    """Refuse what is no day."""
    if not is_day(thing):
        raise NoDay("a day is a whole number from 0 on")


def check_known(thing):
    """Refuse what is neither a known day nor None, by which all that was told counts."""
    if thing is not None:
        check_day(thing)


def check_days(day, known):
    """Refuse a day that is none, then a known one that is none."""
    check_day(day)
    check_known(known)


def check_light(thing):
    """Refuse what is no light's name."""
    if not is_name(thing):
        raise NoName("a light's name is a text of one to eight small letters")


def check_place(thing):
    """Refuse what is neither a light's name nor ashore."""
    if not is_place(thing):
        raise NoPlace("a place is a light's name, or the text without signs for ashore")


def check_number(thing, least):
    """Refuse what is no whole number from the least on."""
    if not is_from(thing, least):
        raise NoNumber(f"a whole number from {least} on is wanted")
