"""A plain reading of 5.2 over tongues as lists of rows (words.py): the rows of steps of a word, and its ways.

Of a word that is refused the refusal's name is told in their stead.
"""

import functools
import itertools

import plain
from folded import Folded
from heirbook.least import least


@functools.lru_cache(maxsize=None)
def folded_of(way):
    folded = Folded(way)
    return folded, folded.table()


def is_within_known(one, other):
    """folded.is_within, with what was folded kept for the next question."""
    folded, table = folded_of(one)
    return folded.never or folded.end in plain.reach(table, other, folded.begin)


def said_by(rows, word):
    """The word and all that it names, in however many steps."""
    named = {word}
    for turn in rows:
        for one, parts in rows:
            if one in named:
                named |= {piece[1:] for pieces, mark in parts for piece in pieces if piece.startswith(":")}
    return named


def steps_of_row(parts, told):
    """The rows of steps of a word, told being the ways of words; of too many some more than 60."""
    rows = []
    for pieces, mark in parts:
        choices = [told[piece[1:]] if piece.startswith(":") else [(piece,)] for piece in pieces]
        if all(choices):
            rows += [sum(choice, ()) for choice in itertools.islice(itertools.product(*choices), 61)]
    return rows


def ways_of_rows(rows):
    """The least ways that are no nevers, each once, but for those within another one, sorted."""
    if len(rows) > 60 or any(len(row) > 24 for row in rows):
        return "TooMany"
    ways = {least(row) for row in set(rows) if not folded_of(row)[0].never}
    return sorted(way for way in ways if not any(other != way and is_within_known(way, other) for other in ways))


def all_ways(rows):
    """5.2: a dict from words to lists of ways, or to the name of a refusal."""
    told = {}
    marked = [word for word, parts in rows for pieces, mark in parts if mark]
    for word, parts in rows:
        named = said_by(rows, word)
        if any(one in named for one in marked):
            told[word] = "Marked"
        elif any(told[one] == "TooMany" for one in named - {word}):
            told[word] = "TooMany"
        else:
            told[word] = ways_of_rows(steps_of_row(parts, told))
    return told


def joined(told, first, second):
    """5.4, by what all_ways tells."""
    for word in (first, second):
        if isinstance(told[word], str):
            return told[word]
    wanted = ways_of_rows([one + other for one in told[first] for other in told[second]])
    return wanted if wanted == "TooMany" else [word for word in told if told[word] == wanted]
