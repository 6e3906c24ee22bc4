"""Rows that a desk is told, by the forms that they have.

A form is a text of slots. A slot in small letters is a word that stands there
itself; NEW is a name by which something is made; BOOK, KIND and LIGHT are
words by which one is kept; NUMBER is a number; PLACE, LETTERS and WORD are
words of which it isn't looked at here what they are. A slot with a question
mark may be left out, and KEEPERS stands for a KEEPER and a NUMBER, so often as
one likes.
"""

from lightturns.errors import NoRow
from lightturns.names import is_name
from lightturns.words import is_number_word


def read_row(row, forms):
    """The form that a row has, and its slots and words, as a tuple (form, slots, words)."""
    if not isinstance(row, str):
        raise NoRow("a row is a text")
    words = row.split(" ")
    if "" in words:
        raise NoRow("the words of a row have one blank between")
    for form in forms:
        slots = slots_for(form, len(words))
        if fits(slots, words):
            return (form, slots, words)
    raise NoRow("no such row can be told")


def slots_for(form, many):
    """The slots of a form for a row of so many words."""
    slots = form.split()
    if slots[-1] == "KEEPERS":
        pairs = (many - len(slots) + 1) // 2
        return slots[:-1] + ["KEEPER", "NUMBER"] * pairs
    return [slot.rstrip("?") for at, slot in enumerate(slots) if at < many or not slot.endswith("?")]


def fits(slots, words):
    """Do the words stand in the slots, each in its own?"""
    if len(slots) != len(words):
        return False
    if not all([suits(slot, word) for slot, word in zip(slots, words)]):
        return False
    return are_unlike_in("KEEPER", slots, words) and are_unlike_in("LIGHT", slots, words)


def suits(slot, word):
    """May the word stand in the slot?"""
    if slot.islower():
        return word == slot
    if slot == "NEW":
        return is_name(word)
    return slot != "NUMBER" or is_number_word(word)


def are_unlike_in(sort, slots, words):
    """Are the words in slots of that sort unlike?"""
    named = [word for slot, word in zip(slots, words) if slot == sort]
    return len(set(named)) == len(named)
