"""Tongues as lists of rows (word, parts), parts lists of (pieces, mark): their texts, and a plain reading of them."""

import random
import re

import plain

MARKS = ("", "other", "elder", "younger")

PIECE = r"(?:[FMTfmtS]|he|she|:[a-z]{1,8})"
PART = rf"{PIECE}(?: {PIECE}){{0,11}}(?: (?:other|elder|younger))?"
ROW = re.compile(rf"([a-z]{{1,8}}) = {PART}(?: \| {PART}){{0,7}}")


def part_text(part):
    pieces, mark = part
    return " ".join(list(pieces) + ([mark] if mark else []))


def text_of(rows):
    return "\n".join(f"{word} = " + " | ".join(part_text(part) for part in parts) for word, parts in rows)


def is_tongue_text(text):
    """4.1."""
    lines = text.split("\n")
    above = []
    for line in lines:
        found = ROW.fullmatch(line)
        if not found or found[1] in above or any(word not in above for word in re.findall(":([a-z]+)", line)):
            return False
        above.append(found[1])
    return len(lines) <= 40


def keeps(entries, mark, one, other):
    known = plain.births(entries)
    return {"": True, "other": one != other, "elder": known[other][3] < known[one][3],
            "younger": known[other][3] > known[one][3]}[mark]


class Reading:
    """4.2, asked word by word and person by person."""

    def __init__(self, entries, rows):
        self.entries, self.rows, self.steps = entries, dict(rows), plain.steps_of(entries)
        self.known = {}

    def by_piece(self, piece, name):
        return self.by_word(piece[1:], name) if piece[0] == ":" else set(self.steps[piece, name])

    def by_part(self, part, name):
        names = {name}
        for piece in part[0]:
            names = {other for begin in names for other in self.by_piece(piece, begin)}
        return {other for other in names if keeps(self.entries, part[1], name, other)}

    def by_word(self, word, name):
        if (word, name) not in self.known:
            self.known[word, name] = {other for part in self.rows[word] for other in self.by_part(part, name)}
        return self.known[word, name]

    def table(self):
        people = sorted(plain.births(self.entries))
        return {word: {name: sorted(self.by_word(word, name)) for name in people} for word in self.rows}


def drawn_rows(number, count=None):
    """A drawn tongue: words said within words, marks, several parts."""
    chance = random.Random(number)
    names = chance.sample(["he", "she", "other", "elder", "f", "s", "m", "zz", "uncle", "abcdefgh", "b", "a", "kin", "x"],
                          count or chance.randrange(1, 9))
    rows = []
    for name in names:
        pieces = list(plain.STEPS) + [":" + word for word, parts in rows] * 3
        parts = [(tuple(chance.choice(pieces) for turn in range(chance.choice([1, 1, 2, 2, 3, 4]))), chance.choice(MARKS))
                 for part in range(chance.choice([1, 2, 2, 3]))]
        rows.append((name, parts))
    return rows


HOUSE = [
    ("born", "old", "he", 0, "", ""), ("born", "ula", "she", 0, "", ""), ("born", "ben", "he", 20, "old", "ula"),
    ("born", "amy", "she", 22, "old", "ula"), ("born", "cal", "he", 22, "old", ""), ("born", "deb", "", 25, "", "ula"),
    ("born", "eli", "he", 50, "ben", ""), ("born", "fay", "she", 50, "ben", ""), ("born", "gil", "he", 51, "cal", "amy"),
    ("born", "hob", "", 60, "eli", "fay"), ("taken", "gil", "deb", 55), ("taken", "gil", "ben", 55),
    ("taken", "eli", "deb", 56), ("union", "old", "ula", 15), ("union", "ben", "deb", 40), ("parted", "ben", "deb", 45),
    ("union", "cal", "amy", 46), ("dead", "old", 70),
]

KIN_ROWS = [
    ("brother", [(("F", "f", "he"), "other"), (("M", "m", "he"), "other")]),
    ("sister", [(("F", "f", "she"), "other"), (("M", "m", "she"), "other")]),
    ("uncle", [(("F", ":brother"), ""), (("M", ":brother"), "")]),
    ("elderbro", [((":brother",), "elder")]),
    ("younger", [(("F", "f"), "younger"), (("M", "m"), "younger")]),
    ("same", [(("F", "f"), ""), (("M", "m"), ""), (("T", "t"), "")]),
    ("cousin", [((":uncle", "f"), ""), (("F", ":sister", "m"), ""), (("M", ":sister", "m"), "")]),
    ("he", [(("he",), "")]),
    ("other", [(("S",), ""), (("T", "S", "t"), "other")]),
    ("s", [((":other", ":he"), ""), ((":cousin", ":younger", ":same"), "elder")]),
]
