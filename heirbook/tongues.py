"""Tongues: words of kin, told row by row, and whom each word leads to in a book."""

from heirbook.entries import is_name
from heirbook.errors import NoTongue, NoWord
from heirbook.pieces import Letter, Said, Test
from heirbook.ways import is_letter, is_test

MARKS = ("other", "elder", "younger")
MOST_ROWS = 40
MOST_PARTS = 8
MOST_PIECES = 12


def read_piece(text, rows):
    if is_letter(text):
        return Letter(text)
    if is_test(text):
        return Test(text)
    if text.startswith(":") and text[1:] in rows:
        return Said(text[1:])
    raise NoTongue("a piece is a letter, a test, or a : and the word of a row above")


def read_part(text, rows):
    pieces = text.split(" ")
    mark = ""
    if pieces[-1] in MARKS:
        mark = pieces.pop()
    if len(pieces) < 1 or len(pieces) > MOST_PIECES:
        raise NoTongue("a part has 1 to 12 pieces")
    return (tuple([read_piece(piece, rows) for piece in pieces]), mark)


def read_parts(text, rows):
    parts = text.split(" | ")
    if len(parts) > MOST_PARTS:
        raise NoTongue("a word has 1 to 8 parts")
    return [read_part(part, rows) for part in parts]


def read_rows(text):
    """A dict from words, in the order of rows, to lists of parts: tuples (pieces, mark)."""
    if not isinstance(text, str):
        raise NoTongue("a tongue is read from a text")
    lines = text.split("\n")
    if len(lines) > MOST_ROWS:
        raise NoTongue("a tongue has 1 to 40 rows")
    rows = {}
    for line in lines:
        halves = line.partition(" = ")
        word = halves[0]
        if not is_name(word) or word in rows:
            raise NoTongue("a row begins with a name that no row above has, and a =")
        rows[word] = read_parts(halves[2], rows)
    return rows


def keeps_mark(book, mark, one, other):
    """Whether a part with this mark may lead from one to other."""
    if mark == "other":
        return one != other
    if mark == "elder":
        return book.born_on(other) < book.born_on(one)
    if mark == "younger":
        return book.born_on(other) > book.born_on(one)
    return True


def said_in(parts):
    """The words that parts say."""
    words = []
    for pieces, mark in parts:
        words.extend([piece.word for piece in pieces if isinstance(piece, Said)])
    return words


class Tongue:
    def __init__(self, text):
        self.rows = read_rows(text)
        self.source = text

    def words(self):
        return list(self.rows)

    def row_of(self, word):
        """The parts of a word, with the pieces themselves."""
        # Only a text is looked up: a thing of another kind may not be able to be a key.
        if not isinstance(word, str) or word not in self.rows:
            raise NoWord("it is no word of the tongue")
        return list(self.rows[word])

    def parts(self, word):
        return [(tuple([piece.text() for piece in pieces]), mark) for pieces, mark in self.row_of(word)]

    def text(self):
        return self.source

    def needed_for(self, word):
        """The word and all that it says, in however many steps, in the order of rows."""
        needed = {word: True}
        for above in reversed(self.words()):
            if above in needed:
                for said in said_in(self.rows[above]):
                    needed[said] = True
        return [row for row in self.rows if row in needed]

    def led(self, book, table, word, name):
        """Whom the word leads to from a person; the table keeps all that was found for it, for the next question."""
        known = table.setdefault(word, {})
        if name not in known:
            found = {}
            for part in self.rows[word]:
                for other in self.led_by_part(book, table, part, name):
                    found[other] = True
            known[name] = sorted(found)
        return known[name]

    def led_by_part(self, book, table, part, name):
        names = [name]
        for piece in part[0]:
            names = self.led_by_piece(book, table, piece, names)
        return [other for other in names if keeps_mark(book, part[1], name, other)]

    def led_by_piece(self, book, table, piece, names):
        if isinstance(piece, Said):
            for name in names:
                self.led(book, table, piece.word, name)
        return piece.leads(book, table, names)

    def table(self, book):
        table = {}
        for word in self.rows:
            table[word] = {}
            for name in book.people():
                self.led(book, table, word, name)
        return table
