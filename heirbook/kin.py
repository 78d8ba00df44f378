"""Who is what to whom: whom a word leads to, by what, and all words between two people."""

from heirbook.tongues import keeps_mark
from heirbook.walks import trail


def who(book, tongue, word, name):
    # Asked for the refusals alone, the word's ahead of the name's.
    tongue.row_of(word)
    book.born_on(name)
    return tongue.led(book, {}, word, name)


def joins(book, tongue, word, one, other):
    parts = tongue.row_of(word)
    book.born_on(one)
    book.born_on(other)
    table = {}
    for number, part in enumerate(parts):
        if keeps_mark(book, part[1], one, other):
            names = trail(one, other, part[0], lambda piece, begin: tongue.led_by_piece(book, table, piece, [begin]))
            if names is not None:
                return (number, names)
    return None


def kin(book, tongues, one, other):
    book.born_on(one)
    book.born_on(other)
    pairs = []
    for number, tongue in enumerate(tongues):
        table = {}
        for word in tongue.words():
            if other in tongue.led(book, table, word, one):
                pairs.append((number, word))
    return pairs
