"""A plain, slow reading of the document over lists of entries, apart from the program's own."""

import copy

LETTERS = ("F", "M", "T", "f", "m", "t", "S")
TESTS = ("he", "she")
STEPS = LETTERS + TESTS


def births(entries):
    return {entry[1]: entry for entry in entries if entry[0] == "born"}


def day_of(entry):
    return entry[3] if entry[0] == "born" else entry[-1]


def told(entry):
    if entry[0] in ("union", "parted") and entry[1] > entry[2]:
        return (entry[0], entry[2], entry[1], entry[3])
    return entry


def is_twice(entries, entry):
    """1.4, Twice."""
    for old in entries:
        if old[0] == entry[0] and entry[0] in ("born", "dead") and old[1] == entry[1]:
            return True
        if old[0] == entry[0] == "taken" and old[1:3] == entry[1:3]:
            return True
        if old[0] == entry[0] == "given" and old[1:3] == entry[1:3] and old[4] == entry[4]:
            return True
        if {old[0], entry[0]} <= {"union", "parted"} and {old[1], old[2]} == {entry[1], entry[2]} and old[3] == entry[3]:
            return True
    return False


def fits(entries, entry):
    """1.4, NoFit, of people who all have births."""
    known = births(entries)
    if entry[0] == "born":
        for name, sort in ((entry[4], "he"), (entry[5], "she")):
            if name and (known[name][2] != sort or known[name][3] >= entry[3]):
                return False
        return True
    if entry[0] == "dead":
        return entry[2] >= known[entry[1]][3]
    one, other = known[entry[1]], known[entry[2]]
    if one == other or entry[-1] < one[3] or entry[-1] < other[3]:
        return False
    return entry[0] != "taken" or other[3] < one[3]


def refusal(entries, entry):
    """The name of the refusal of a thing that is an entry, or None."""
    known = births(entries)
    if len(entries) >= 400 or (entry[0] == "born" and len(known) >= 60):
        return "Full"
    named = entry[4:] if entry[0] == "born" else entry[1:2] if entry[0] == "dead" else entry[1:3]
    if any(name not in known for name in named if name != ""):
        return "NoPerson"
    if is_twice(entries, entry):
        return "Twice"
    return None if fits(entries, entry) else "NoFit"


def stands(entries, one, other, day=None):
    ties = [(entry[3], entry[0]) for entry in entries
            if entry[0] in ("union", "parted") and {entry[1], entry[2]} == {one, other}
            and (day is None or entry[3] <= day)]
    return bool(ties) and max(ties)[1] == "union"


def gave(entries, giver, taker):
    return sum(entry[3] for entry in entries if entry[0] == "given" and entry[1:3] == (giver, taker))


def step(entries, letter, name):
    """Those to whom a letter or a test leads."""
    known = births(entries)
    if letter in TESTS:
        return [name] if known[name][2] == letter else []
    taken = [(entry[1], entry[2]) for entry in entries if entry[0] == "taken"]
    told_by = {
        "F": [known[name][4]], "M": [known[name][5]], "T": [taker for child, taker in taken if child == name],
        "f": [child for child in known if known[child][4] == name],
        "m": [child for child in known if known[child][5] == name],
        "t": [child for child, taker in taken if taker == name],
        "S": [other for other in known if stands(entries, name, other)],
    }
    return sorted(other for other in told_by[letter] if other != "")


def all_told(entries):
    """All that a book of these entries tells; the same form as all_of below."""
    known = births(entries)
    people = sorted(known)
    days = days_around(entries)
    return {
        "entries": sorted(told(entry) for entry in entries),
        "people": people,
        "sorts": [known[name][2] for name in people],
        "born": [known[name][3] for name in people],
        "dead": [([entry[2] for entry in entries if entry[:2] == ("dead", name)] or [None])[0] for name in people],
        "stands": [stands(entries, one, other, day) for one in people for other in people for day in days],
        "gave": [gave(entries, one, other) for one in people for other in people],
        "steps": [step(entries, letter, name) for letter in LETTERS for name in people],
    }


def all_of(book, days):
    """All that a book tells, asked of the book; copied, so that it stays as it was told now."""
    people = list(book.people())
    return copy.deepcopy({
        "entries": book.entries(),
        "people": people,
        "sorts": [book.sort_of(name) for name in people],
        "born": [book.born_on(name) for name in people],
        "dead": [book.dead_on(name) for name in people],
        "stands": [book.stands(one, other, day) for one in people for other in people for day in days],
        "gave": [book.gave(one, other) for one in people for other in people],
        "steps": [book.step(letter, name) for letter in LETTERS for name in people],
    })


def days_around(entries):
    """Without a day, and before, on and behind the day of each union and parting."""
    ties = {entry[3] for entry in entries if entry[0] in ("union", "parted")}
    return [None] + sorted({day + more for day in ties for more in (-1, 0, 1)})


def steps_of(entries):
    """Where each letter and test leads from each person, as a dict, so that long ways are walked fast."""
    return {(letter, name): step(entries, letter, name) for letter in STEPS for name in births(entries)}


def layers(table, way, name):
    """For each number of steps those who are reached by them."""
    rows = [{name}]
    for one in way:
        rows.append({other for begin in rows[-1] for other in table[one, begin]})
    return rows


def reach(table, way, name):
    return sorted(layers(table, way, name)[-1])


def is_walk(table, way, names):
    """Whether names is a walk by the way."""
    if type(names) is not list or len(names) != len(way) + 1:
        return False
    return all(names[number + 1] in table[one, names[number]] for number, one in enumerate(way))
