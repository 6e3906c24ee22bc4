"""Places where a keeper may be: a light, by its name, or ashore."""

from lightturns.names import is_name

ASHORE = ""


def is_place(thing):
    """Is it a light's name, or ashore?"""
    return is_name(thing) or (isinstance(thing, str) and thing == ASHORE)
