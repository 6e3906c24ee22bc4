"""Whole numbers and days."""


def is_whole(thing):
    """Is it an int that is neither True nor False?"""
    return isinstance(thing, int) and not isinstance(thing, bool)


def is_from(thing, least):
    """Is it a whole number from the least on?"""
    return is_whole(thing) and thing >= least


def is_within(thing, least, most):
    """Is it a whole number from the least to the most?"""
    return is_whole(thing) and least <= thing <= most


def is_day(thing):
    """Is it a whole number from 0 on?"""
    return is_from(thing, 0)


def parts_for(many, most):
    """Into how few parts so many go, where no part has more than the most."""
    return (many + most - 1) // most
