"""Books and ways that are drawn; a drawing with the same number is always the same."""

import random

import plain
from heirbook.book import Book
from heirbook.errors import HeirError, NoPerson

NAMES = ["a", "b", "cc", "d", "ee", "f", "he", "zz", "y", "x", "w", "vvvvvvvv"]
SORTS = ["he", "she", "he", "she", ""]


def any_entry(chance, names, days):
    """Something that is an entry, often one that is refused."""
    kind = chance.choice(["born", "born", "taken", "union", "parted", "dead", "given"])
    one, other, day = chance.choice(names), chance.choice(names), chance.randrange(days)
    if kind == "born":
        father, mother = [chance.choice(names + [""] * 3) for side in range(2)]
        return ("born", one, chance.choice(SORTS), day, father, mother)
    if kind == "dead":
        return ("dead", one, day)
    if kind == "given":
        return ("given", one, other, chance.choice([1, 2, 7, 10 ** 18]), day)
    return (kind, one, other, day)


def parent_of(chance, known, sort, day):
    elder = [name for name in known if known[name][2] == sort and known[name][3] < day]
    return chance.choice(elder) if elder and chance.random() < 0.8 else ""


def drawn_entries(number, people=8, more=25):
    """Entries that can all be let in, births first."""
    chance = random.Random(number)
    entries = []
    for turn, name in enumerate(chance.sample(NAMES, people)):
        day = turn * 3 // 2 - 4
        known = plain.births(entries)
        father, mother = parent_of(chance, known, "he", day), parent_of(chance, known, "she", day)
        entries.append(("born", name, chance.choice(SORTS), day, father, mother))
    names = sorted(plain.births(entries))
    for turn in range(more):
        kind = chance.choice(["taken", "taken", "union", "union", "union", "parted", "dead", "given"])
        one, other, day = chance.choice(names), chance.choice(names), chance.randrange(12, 20)
        entry = {"dead": ("dead", one, day), "given": ("given", one, other, turn + 1, day)}.get(kind, (kind, one, other, day))
        if plain.refusal(entries, entry) is None:
            entries.append(entry)
    return entries


def book_with(entries):
    book = Book()
    for entry in entries:
        book.put(entry)
    return book


def book_in_order(entries):
    """The book of entries in this order, but that who names somebody who is still to come waits for that birth."""
    book = Book()
    waiting = list(entries)
    while waiting:
        later = []
        for entry in waiting:
            try:
                book.put(entry)
            except NoPerson:
                later.append(entry)
        if len(later) == len(waiting):
            raise AssertionError(f"never let in: {later}")
        waiting = later
    return book


def refused(asked):
    """The name of the refusal, or None."""
    try:
        asked()
    except HeirError as refusal:
        return type(refusal).__name__
    return None


def answer(asked):
    """What is told, or the name of the refusal."""
    try:
        return asked()
    except HeirError as refusal:
        return type(refusal).__name__


def drawn_way(chance, length):
    """A way with many steps out and back."""
    steps = []
    while len(steps) < length:
        if steps and steps[-1] in "fm" and chance.random() < 0.4:
            steps.append(steps[-1].upper())
        else:
            steps.append(chance.choice(plain.STEPS + ("f", "m", "f", "m", "F", "M")))
    return tuple(steps)


def drawn_ways(number, count, most=24):
    chance = random.Random(number)
    return [drawn_way(chance, chance.randrange(most + 1)) for turn in range(count)]


def short_ways(most):
    """All ways of at most so many steps, the fewest steps first, of as many in the order of tuples."""
    rows = [[()]]
    for length in range(most):
        rows.append([way + (step,) for way in rows[-1] for step in sorted(plain.STEPS)])
    return [way for row in rows for way in row]
