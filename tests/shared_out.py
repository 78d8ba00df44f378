"""A plain reading of stages 7 to 10 over lists of entries, apart from the program's own; parts are Fractions here.

A code is a dict here: spouse, stand (words or empty texts), classes (word, how, share), alone, ahead, apart.
"""

import functools
import itertools
import random
from fractions import Fraction

import plain
from drawn import drawn_entries
from words import Reading

ROWS = [
    ("child", [(("f",), ""), (("m",), ""), (("t",), "")]),
    ("wife", [(("S",), "")]),
    ("up", [(("F",), ""), (("M",), ""), (("T",), "")]),
    ("sib", [((":up", ":child"), "other")]),
    ("self", [((":up", ":child"), ""), (("he",), ""), (("she",), "")]),
    ("son", [(("f", "he"), ""), (("he", "m"), ""), (("t", "she"), "")]),
    ("grand", [((":child", ":child"), "")]),
    ("elder", [((":sib",), "elder")]),
    ("far", [((":up", ":up", ":child", ":child"), ""), ((":wife", ":child"), "")]),
    ("down", [(("f", "f"), ""), (("m", "f"), ""), (("t",), ""), (("f",), "")]),
]
STANDS = ["child", "son", "down"]


def share_text(share):
    return str(share[0]) if share[1] == 1 else f"{share[0]}/{share[1]}"


def code_text(code):
    lines = [f"{first} {code[first]}" for first in ("spouse", "stand") if code[first]]
    lines += [f"class {word} {how} {share_text(share)}" for word, how, share in code["classes"]]
    if code["alone"] is not None:
        lines.append(f"alone {share_text(code['alone'])}")
    return "\n".join(lines + [row for row in ("ahead", "apart") if code[row]])


def code_with(**told):
    code = {"spouse": "", "stand": "", "classes": [("child", "lines", (0, 1))], "alone": None, "ahead": False, "apart": False}
    return {**code, **told}


def drawn_code(number, **told):
    chance = random.Random(number)
    words = [word for word, parts in ROWS]
    shares = [(0, 1), (1, 1), (1, 2), (1, 3), (3, 7)]
    classes = [(chance.choice(words), chance.choice(["heads", "lines", "lines"]), chance.choice(shares))
               for turn in range(chance.choice([1, 2, 2, 3]))]
    code = code_with(
        spouse=chance.choice(["", "wife", "wife", "wife", "sib", "child"]), stand=chance.choice(["", *STANDS, "child", "child"]),
        classes=classes, alone=chance.choice([None, None, (0, 1), (1, 1), (2, 5)]), ahead=chance.random() < 0.5,
        apart=chance.random() < 0.5)
    return {**code, **told}


def drawn_house(number, people=9, deaths=5):
    """Entries with several generations, several deaths, gifts, unions and takings-in; some on days behind the deaths."""
    chance = random.Random(number)
    entries = drawn_entries(number, people=people, more=14)
    names = sorted(plain.births(entries))
    for turn in range(deaths):
        entry = ("dead", chance.choice(names), chance.randrange(4, 17))
        if plain.refusal(entries, entry) is None:
            entries.append(entry)
    for turn in range(20):
        giver = chance.choice(sorted(dead_of(entries)) or names)
        entry = ("given", giver, chance.choice(names), chance.randrange(1, 9), chance.randrange(6, 17))
        if plain.refusal(entries, entry) is None:
            entries.append(entry)
    return entries


def dead_of(entries):
    return {entry[1]: entry[2] for entry in entries if entry[0] == "dead"}


def as_fractions(told):
    return {name: Fraction(*part) for name, part in told.items()}


def as_tuple(part):
    return (part.numerator, part.denominator)


def as_tuples(told):
    return {name: as_tuple(part) for name, part in told.items()}


@functools.lru_cache(maxsize=64)
def until(entries, day):
    """The entries until a day, and a reading of them; kept, as it is asked for again and again."""
    some = [entry for entry in entries if plain.day_of(entry) <= day]
    return some, Reading(some, ROWS)


class Sharing:
    """What one dead person leaves."""

    def __init__(self, entries, code, name, living=None):
        self.code, self.name = code, name
        day = dead_of(entries)[name]
        self.entries, self.reading = until(tuple(entries), day)
        self.born = plain.births(self.entries)
        self.people = sorted(self.born)
        wanted = [one for one in self.people if one not in dead_of(self.entries)] if living is None else living
        self.living = [one for one in self.people if one in wanted and one != name]
        self.known = {}

    def led(self, word, one):
        return sorted(self.reading.by_word(word, one)) if word else []

    def has_line(self, one):
        if one not in self.known:
            self.known[one] = one in self.living or (
                one != self.name and any(self.has_line(other) for other in self.led(self.code["stand"], one)))
        return self.known[one]

    def spouses(self):
        return [one for one in self.led(self.code["spouse"], self.name) if one in self.living]

    def takers(self, number):
        word, how, share = self.code["classes"][number]
        led = [one for one in self.led(word, self.name) if one != self.name]
        return [one for one in led if (one in self.living if how == "heads" else self.has_line(one))]

    def chosen(self):
        return next((number for number in range(len(self.code["classes"])) if self.takers(number)), None)

    def for_spouses(self):
        if not self.spouses():
            return Fraction(0)
        if self.chosen() is None:
            return Fraction(1) if self.code["alone"] is None else Fraction(*self.code["alone"])
        return Fraction(*self.code["classes"][self.chosen()][2])

    def first(self, amount=Fraction(1), dues=None):
        """What comes to spouses, takers and the chest; dues, where told, are what each taker takes."""
        came = {}
        for one in self.spouses():
            came[one] = came.get(one, 0) + amount * self.for_spouses() / len(self.spouses())
        rest = amount * (1 - self.for_spouses())
        if self.chosen() is None:
            came[""] = rest
        else:
            names = self.takers(self.chosen())
            for one, due in zip(names, dues or [rest / len(names)] * len(names)):
                came[one] = came.get(one, 0) + due
        return {one: came[one] for one in sorted(came) if came[one] > 0}

    def heirs(self, one):
        if one in self.living or one == self.name:
            return []
        return [other for other in self.led(self.code["stand"], one) if self.has_line(other)]

    def passed(self, come):
        """Each part goes its way by itself; told are what has come in the end and all that went past the dead."""
        ended, went = {}, {}
        waiting = list(come.items())
        while waiting:
            one, part = waiting.pop()
            if one == "" or one in self.living:
                ended[one] = ended.get(one, 0) + part
            else:
                went[one] = went.get(one, 0) + part
                waiting += [(other, part / len(self.heirs(one))) for other in self.heirs(one)]
        rows = [(one, went[one], self.heirs(one)) for one in sorted(went, key=lambda one: (self.born[one][3], one))]
        return {one: ended[one] for one in sorted(ended)}, rows

    def shares(self):
        return self.passed(self.first())[0]


def lacks(level, gifts):
    """What each gift lacks to the level."""
    return [max(level - gift, Fraction(0)) for gift in gifts]


def level_of(amount, gifts):
    """9.1: of all that some gifts and the amount come to on even terms, the one whose lacks are the amount."""
    if amount == 0:
        return Fraction(min(gifts))
    found = {(amount + sum(sorted(gifts)[:count])) / count for count in range(1, len(gifts) + 1)}
    level, = [one for one in found if sum(lacks(one, gifts)) == amount]
    return level


def parts(entries, code, name, amount, living=None):
    """9.2."""
    sharing = Sharing(entries, code, name, living)
    chosen = sharing.chosen()
    dues = None
    if code["ahead"] and chosen is not None and code["classes"][chosen][1] == "lines":
        gifts = [plain.gave(sharing.entries, name, one) for one in sharing.takers(chosen)]
        has = amount * (1 - sharing.for_spouses())
        dues = lacks(level_of(has, gifts), gifts)
    return sharing.passed(sharing.first(amount, dues))[0]


def after(entries, code, order, held, living):
    """10.2: what is held when those of the order have died one after another; living is told for each of them."""
    held = dict(held)
    for name in order:
        came = parts(entries, code, name, held.pop(name, Fraction(0)), living[name])
        for one, part in came.items():
            held[one] = held.get(one, 0) + part
    return {one: held[one] for one in sorted(held) if held[one] > 0}


def after_order(entries, code, order, held):
    """One order of a night, where the code does not hold its dead apart."""
    day = dead_of(entries)[order[0]]
    alive = [one for one in plain.births(entries) if dead_of(entries).get(one, day + 1) > day]
    return after(entries, code, order, held, {one: alive + list(order[number + 1:]) for number, one in enumerate(order)})


def settled(entries, code, holdings):
    """10.3: the holdings in the end; or "TooMany"; or the day of a night that is unsure and what was held before it."""
    held = {one: holdings[one] for one in sorted(holdings) if holdings[one] > 0}
    for day in sorted(set(dead_of(entries).values())):
        night = sorted(one for one, died in dead_of(entries).items() if died == day)
        if code["apart"] or len(night) == 1:
            held = after(entries, code, night, held, dict.fromkeys(night))
            continue
        if len(night) > 4:
            return "TooMany"
        ends = [after_order(entries, code, order, held) for order in itertools.permutations(night)]
        if any(end != ends[0] for end in ends):
            return day, held
        held = ends[0]
    return held
