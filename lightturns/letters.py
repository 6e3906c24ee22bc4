"""Small letters, one for each sort of day."""

from lightturns.names import SMALL_LETTERS


def is_letter(thing):
    """Is it a text of one small letter?"""
    return isinstance(thing, str) and len(thing) == 1 and thing in SMALL_LETTERS


def are_unlike_letters(thing):
    """Is it a text of small letters, perhaps of none, no two of them alike?"""
    if not isinstance(thing, str):
        return False
    return all([is_letter(sign) for sign in thing]) and len(set(thing)) == len(thing)
