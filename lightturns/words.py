"""Numbers and places as words of a text."""

from lightturns.places import ASHORE

FIGURES = "0123456789"
ASHORE_WORD = "-"
NO_MOVE_WORD = "?"


def is_number_word(word):
    """Is it a whole number from 0 on, in figures without noughts ahead?"""
    if word == "" or not all([sign in FIGURES for sign in word]):
        return False
    return word == "0" or word[0] != "0"


def place_word(place):
    """The word for a place, or for None, which stands for no move."""
    if place is None:
        return NO_MOVE_WORD
    return ASHORE_WORD if place == ASHORE else place


def read_place(word):
    """The place, or None, for which a word stands."""
    if word == NO_MOVE_WORD:
        return None
    return ASHORE if word == ASHORE_WORD else word
