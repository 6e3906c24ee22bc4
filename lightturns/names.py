"""Names of keepers, lights and whatever else goes by one."""

SMALL_LETTERS = "abcdefghijklmnopqrstuvwxyz"
LONGEST_NAME = 8


def is_name(thing):
    """Is it a text of one to eight small letters?"""
    if not isinstance(thing, str):
        return False
    if not 1 <= len(thing) <= LONGEST_NAME:
        return False
    return all([letter in SMALL_LETTERS for letter in thing])
