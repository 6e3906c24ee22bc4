"""Kinds of weather that are made of letters and a number."""

from lightturns.errors import NoLetter, NoLetters, NoNumber
from lightturns.kinds import Kind
from lightturns.letters import are_unlike_letters, is_letter
from lightturns.wholes import is_within

FEWEST_LETTERS = 2
MOST_LETTERS = 6
MOST_DAYS = 60


def never_more(letters, letter, many):
    """All weathers of the letters in which that letter doesn't stand on more than so many days on end."""
    check_making(letters, letter, many, 0)
    others = [each for each in letters if each != letter]
    return Kind(counting_rows(others, [letter], many))


def one_in(letters, letter, many):
    """All weathers of the letters in which each so many days on end have a day of that letter."""
    check_making(letters, letter, many, 1)
    others = [each for each in letters if each != letter]
    return Kind(counting_rows([letter], others, many - 1))


def check_making(letters, letter, many, least):
    """Refuse what no such kind can be made of."""
    if not are_unlike_letters(letters) or not FEWEST_LETTERS <= len(letters) <= MOST_LETTERS:
        raise NoLetters("letters are a text of two to six unlike small letters")
    if not is_letter(letter) or letter not in letters:
        raise NoLetter("the letter is one of the letters")
    if not is_within(many, least, MOST_DAYS):
        raise NoNumber(f"so many is a whole number from {least} to 60")


def counting_rows(ends, counts, most):
    """Rows by how many days on end have a letter that counts, never more than the most; a letter of ends ends them."""
    table = []
    for number in range(most + 1):
        row = {letter: 0 for letter in ends}
        if number < most:
            row.update({letter: number + 1 for letter in counts})
        table.append(row)
    return table
