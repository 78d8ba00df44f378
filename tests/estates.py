"""A family, codes for it, and drawn houses, each dead one of them with a drawn code and drawn living."""

import random

import plain
from drawn import book_with
from heirbook.codes import Code
from heirbook.tongues import Tongue
from samples import NUMBERS, OTHER_KINDS, TUPLES
from shared_out import ROWS, code_text, code_with, dead_of, drawn_code, drawn_house
from words import text_of

TONGUE = Tongue(text_of(ROWS))
NOBODYS = OTHER_KINDS + NUMBERS + TUPLES + ["", "zed", "Dad", "dad ", "child", "toolongname"]

FAMILY = [
    ("born", "dad", "he", 0, "", ""), ("born", "mum", "she", 0, "", ""), ("born", "ann", "she", 20, "dad", "mum"),
    ("born", "bob", "he", 22, "dad", "mum"), ("born", "cid", "he", 24, "dad", ""), ("born", "eve", "she", 45, "bob", ""),
    ("born", "fay", "she", 46, "bob", ""), ("born", "gus", "he", 66, "", "eve"), ("born", "hal", "he", 48, "cid", ""),
    ("born", "una", "she", 5, "", ""), ("union", "dad", "mum", 10), ("union", "una", "dad", 50), ("dead", "dad", 80),
]


def code_of(**told):
    return Code(TONGUE, code_text(code_with(**told)))


def drawn_living(chance, names):
    """No list, an empty one, or one with strangers, names told twice, and the dead."""
    kind = chance.randrange(4)
    if kind < 2:
        return None
    return [] if kind == 2 and chance.random() < 0.3 else chance.choices(names + ["zed", ""], k=chance.randrange(1, 9))


def cases(count, people=9, deaths=5, **rules):
    """Tuples (number, entries, book, drawn code, code, name, living): each dead one of drawn houses."""
    for number in range(count):
        chance = random.Random(number)
        entries, told = drawn_house(number, people, deaths), drawn_code(number, **rules)
        book, code = book_with(entries), Code(TONGUE, code_text(told))
        for name in sorted(dead_of(entries)):
            yield number, entries, book, told, code, name, drawn_living(chance, sorted(plain.births(entries)))
