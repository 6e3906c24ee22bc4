"""Books as texts, and back."""

from lightturns.book import book_of
from lightturns.errors import NoText, Wrong
from lightturns.words import is_number_word, place_word, read_place


def book_text(book):
    """The text of a book: a line for each keeper, then one for each entry."""
    lines = [f"keeper {name} {rank}" for name, rank in sorted(book.ranks().items())]
    lines += [entry_line(entry) for entry in book.entries()]
    return "".join([line + "\n" for line in lines])


def entry_line(entry):
    """The line of an entry."""
    word, known, who, day, what = entry
    last = what if word == "land" else place_word(what)
    return f"{word} {known} {who} {day} {last}"


def read_book(text):
    """The book of which this is the text.

    The lines are read to a book as well as they can be; it's the one that is
    meant just where its own text is this very one.
    """
    if not isinstance(text, str):
        raise NoText("a book is read from a text")
    ranks = {}
    entries = []
    for line in text.split("\n")[:-1]:
        words = line.split(" ")
        if is_keeper_line(words):
            ranks[words[1]] = int(words[2])
        elif is_entry_line(words):
            entries.append(read_entry(words))
        else:
            raise NoText("a line is neither that of a keeper nor that of an entry")
    book = checked_book(ranks, entries)
    if book_text(book) != text:
        raise NoText("the lines aren't those of a book, each once and in order")
    return book


def is_keeper_line(words):
    """Are these the words of a keeper's line, as far as they can be told without a book?"""
    return len(words) == 3 and words[0] == "keeper" and is_number_word(words[2])


def is_entry_line(words):
    """Are these the words of an entry's line, as far as they can be told without a book?"""
    if len(words) != 5 or words[0] not in ("land", "move"):
        return False
    if not is_number_word(words[1]) or not is_number_word(words[3]):
        return False
    return words[0] == "move" or is_number_word(words[4])


def read_entry(words):
    """The entry that the words of a line tell."""
    word, known, who, day, what = words
    return (word, int(known), who, int(day), int(what) if word == "land" else read_place(what))


def checked_book(ranks, entries):
    """The book of these ranks and entries, refused as a text where there's none."""
    try:
        return book_of(ranks, entries)
    except Wrong:
        raise NoText("a line tells of what is no such thing") from None
