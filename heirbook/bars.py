"""Bars between two people who would join, and a house that lets no union in across them."""

from heirbook.book import Book
from heirbook.errors import Barred


def look_up(tongue, words):
    """Refuses words that are none of the tongue's."""
    for word in words:
        tongue.row_of(word)


def found_bars(book, tongue, table, words, one, other):
    """The bars between two; the table keeps whom words lead to, for the next pair of people."""
    found = []
    for word in words:
        for begin, end in ((one, other), (other, one)):
            if end in tongue.led(book, table, word, begin):
                found.append((word, begin, end))
    return found


def bars(book, tongue, words, one, other):
    look_up(tongue, words)
    book.born_on(one)
    book.born_on(other)
    return found_bars(book, tongue, {}, words, one, other)


def is_free(book, tongue, table, words, one, other):
    if one == other or book.dead_on(one) is not None or book.dead_on(other) is not None:
        return False
    return not book.stands(one, other) and len(found_bars(book, tongue, table, words, one, other)) == 0


def may_join(book, tongue, words, one, other):
    look_up(tongue, words)
    book.born_on(one)
    book.born_on(other)
    return is_free(book, tongue, {}, words, one, other)


def free_pairs(book, tongue, words):
    look_up(tongue, words)
    table = {}
    people = book.people()
    pairs = []
    for number, one in enumerate(people):
        for other in people[number + 1:]:
            if is_free(book, tongue, table, words, one, other):
                pairs.append((one, other))
    return pairs


def let_in(book, tongue, words, entry):
    """Puts the entry into the book, but for a union across bars."""
    # Ahead of the bars: the book's own refusals come first, and they make sure of the two people.
    book.refuse(entry)
    if entry[0] == "union":
        found = bars(book, tongue, words, entry[1], entry[2])
        if len(found) > 0:
            raise Barred(found)
    book.put(entry)


class House:
    def __init__(self, tongue, words):
        look_up(tongue, words)
        self.book = Book()
        self.tongue = tongue
        self.barring = list(words)

    def put(self, entry):
        let_in(self.book, self.tongue, self.barring, entry)
