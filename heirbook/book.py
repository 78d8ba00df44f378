"""The book: entries are let in or refused; it tells its people, their unions and gifts, and where a step leads."""

from heirbook.entries import as_told, day_of, is_entry, is_tie, key_of, named_in
from heirbook.errors import Full, NoEntry, NoFit, NoPerson, NoWay, Twice
from heirbook.ways import is_letter

MOST_ENTRIES = 400
MOST_PEOPLE = 60


def pair_of(one, other):
    """Two names as a key that is the same whichever of them is told first."""
    return (min(one, other), max(one, other))


class Book:
    def __init__(self):
        # All entries, by what no two of them share; the rest is read off them when one is let in.
        self.kept = {}
        self.births = {}
        self.links = {}
        self.ties = {}
        self.sums = {}

    def put(self, entry):
        self.refuse(entry)
        told = as_told(entry)
        self.kept[key_of(told)] = told
        if told[0] == "born":
            self.note_birth(told)
        elif told[0] == "taken":
            self.link("T", told[1], told[2])
            self.link("t", told[2], told[1])
        elif told[0] == "given":
            given = (told[1], told[2])
            self.sums[given] = self.sums.get(given, 0) + told[3]
        elif is_tie(told):
            self.note_tie(told)

    def refuse(self, entry):
        """Raises the first refusal that holds of the entry; changes nothing."""
        if not is_entry(entry):
            raise NoEntry("it is no entry of a book")
        if len(self.kept) >= MOST_ENTRIES:
            raise Full("the book has 400 entries")
        if entry[0] == "born" and len(self.births) >= MOST_PEOPLE:
            raise Full("the book has 60 people")
        for name in named_in(entry):
            self.birth_of(name)
        if key_of(entry) in self.kept:
            raise Twice("the book has such an entry")
        if not self.fits(entry):
            raise NoFit("the entry does not fit those whom it names")

    def fits(self, entry):
        if entry[0] == "born":
            return self.parent_fits(entry[4], "he", entry[3]) and self.parent_fits(entry[5], "she", entry[3])
        names = named_in(entry)
        if len(names) == 2 and names[0] == names[1]:
            return False
        if entry[0] == "taken" and self.born_on(entry[2]) >= self.born_on(entry[1]):
            return False
        return all([day_of(entry) >= self.born_on(name) for name in names])

    def parent_fits(self, name, sort, day):
        return name == "" or (self.sort_of(name) == sort and self.born_on(name) < day)

    def note_birth(self, entry):
        self.births[entry[1]] = entry
        if entry[4] != "":
            self.link("F", entry[1], entry[4])
            self.link("f", entry[4], entry[1])
        if entry[5] != "":
            self.link("M", entry[1], entry[5])
            self.link("m", entry[5], entry[1])

    def note_tie(self, entry):
        """Keeps a union or parting, and lets S lead between the two just where their union stands now."""
        days = self.ties.setdefault(pair_of(entry[1], entry[2]), {})
        days[entry[3]] = entry[0]
        for begin, end in ((entry[1], entry[2]), (entry[2], entry[1])):
            self.links[("S", begin)] = [name for name in self.step("S", begin) if name != end]
            if self.stands(begin, end):
                self.link("S", begin, end)

    def link(self, letter, begin, end):
        self.links[(letter, begin)] = sorted(self.links.get((letter, begin), []) + [end])

    def birth_of(self, name):
        # Only a text is looked up: a thing of another kind may not be able to be a key.
        if not isinstance(name, str) or name not in self.births:
            raise NoPerson("the name is nobody's in the book")
        return self.births[name]

    def entries(self):
        return sorted(self.kept.values())

    def people(self):
        return sorted(self.births)

    def sort_of(self, name):
        return self.birth_of(name)[2]

    def born_on(self, name):
        return self.birth_of(name)[3]

    def dead_on(self, name):
        self.birth_of(name)
        death = self.kept.get(("dead", name), None)
        return None if death is None else death[2]

    def stands(self, one, other, day=None):
        self.birth_of(one)
        self.birth_of(other)
        ties = self.ties.get(pair_of(one, other), {})
        days = [tied_on for tied_on in ties if day is None or tied_on <= day]
        return len(days) > 0 and ties[max(days)] == "union"

    def gave(self, giver, taker):
        self.birth_of(giver)
        self.birth_of(taker)
        return self.sums.get((giver, taker), 0)

    def step(self, letter, name):
        if not is_letter(letter):
            raise NoWay("it is none of the seven letters")
        self.birth_of(name)
        return list(self.links.get((letter, name), []))

    def until(self, day):
        book = Book()
        # In the order in which they were let in each entry finds those whom it names: no birth of theirs is later.
        for entry in self.kept.values():
            if day_of(entry) <= day:
                book.put(entry)
        return book
