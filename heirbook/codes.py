"""Codes: rules, told row by row, by which words of kin take what of the dead."""

from heirbook.errors import NoCode
from heirbook.ratios import common_divisor

# The rows in their order, each with the number of words behind its first one.
ROWS = {"spouse": 1, "stand": 1, "class": 3, "alone": 1, "ahead": 0, "apart": 0}
MOST_CLASSES = 12
MOST_FIGURES = 18
FIGURES = "0123456789"
LETTERS_DOWN = ("f", "m", "t")
TESTS_DOWN = ("he", "she")


def is_written(text):
    """Whether a text writes a whole number above 0, of not too many figures, without a nought ahead."""
    if text == "" or len(text) > MOST_FIGURES or text.startswith("0"):
        return False
    return all([sign in FIGURES for sign in text])


def read_share(text):
    if text in ("0", "1"):
        return (int(text), 1)
    halves = text.partition("/")
    if not is_written(halves[0]) or not is_written(halves[2]):
        raise NoCode("a share is 0, 1, or a fraction")
    top = int(halves[0])
    bottom = int(halves[2])
    if top >= bottom or common_divisor(top, bottom) > 1:
        raise NoCode("a share is below 1 and in lowest terms")
    return (top, bottom)


def read_word(tongue, text):
    if text not in tongue.words():
        raise NoCode("a code names words of its tongue")
    return text


def leads_down(part):
    """Whether each step of a part goes to a child, or stays, and one goes: so nobody is led to again."""
    pieces = part[0]
    if part[1] != "" or not all([piece in LETTERS_DOWN or piece in TESTS_DOWN for piece in pieces]):
        return False
    return any([piece in LETTERS_DOWN for piece in pieces])


def read_stand(tongue, text):
    word = read_word(tongue, text)
    if not all([leads_down(part) for part in tongue.parts(word)]):
        raise NoCode("those who stand in are reached by f, m and t alone")
    return word


def read_class(tongue, words):
    if words[1] not in ("heads", "lines"):
        raise NoCode("a class takes by heads or by lines")
    return (read_word(tongue, words[0]), words[1], read_share(words[2]))


def is_form(words):
    return words[0] in ROWS and len(words) == ROWS[words[0]] + 1


def is_order(firsts):
    """Whether rows with these first words make a code: in their order, a class at least, the others once at most."""
    order = list(ROWS)
    if firsts != sorted(firsts, key=lambda first: order.index(first)):
        return False
    if any([firsts.count(first) > 1 for first in order if first != "class"]):
        return False
    return firsts.count("class") >= 1 and firsts.count("class") <= MOST_CLASSES


def read_rows(text):
    """A dict from each first word that a row may have to a list: of each such row the words behind it."""
    if not isinstance(text, str):
        raise NoCode("a code is read from a text")
    lines = [line.split(" ") for line in text.split("\n")]
    if not all([is_form(words) for words in lines]):
        raise NoCode("a code has rows of six forms")
    if not is_order([words[0] for words in lines]):
        raise NoCode("a code has 1 to 12 classes, and each other row once at most, in one order")
    rows = {}
    for first in ROWS:
        rows[first] = [words[1:] for words in lines if words[0] == first]
    return rows


class Code:
    def __init__(self, tongue, text):
        rows = read_rows(text)
        self.tongue = tongue
        self.source = text
        self.spouse = read_word(tongue, rows["spouse"][0][0]) if rows["spouse"] else ""
        self.stand = read_stand(tongue, rows["stand"][0][0]) if rows["stand"] else ""
        self.classes = tuple([read_class(tongue, words) for words in rows["class"]])
        self.alone = read_share(rows["alone"][0][0]) if rows["alone"] else (1, 1)
        self.gifts = len(rows["ahead"]) > 0
        self.apart = len(rows["apart"]) > 0

    def text(self):
        return self.source
