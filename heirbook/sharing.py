"""What one dead person leaves: who lives, who takes, who stands in for whom, and what comes to each."""

from heirbook.errors import Alive
from heirbook.ratios import less, minus, over, plus

ALL = (1, 1)
NOTHING = (0, 1)
CHEST = ""


def gathered(pairs):
    """A dict from names, sorted, to all that comes to each by pairs (name, part), where that is above 0."""
    found = {}
    for name, part in pairs:
        found[name] = plus(found.get(name, NOTHING), part)
    sums = {}
    for name in sorted(found):
        if less(NOTHING, found[name]):
            sums[name] = found[name]
    return sums


def alike_for(names, part):
    """Pairs that part a part among names, as much to each."""
    return [(name, over(part, (len(names), 1))) for name in names]


def book_of_death(book, name):
    """The book until the day of somebody's death."""
    day = book.dead_on(name)
    if day is None:
        raise Alive("the person has no death in the book")
    return book.until(day)


def lives_in(day_book, name, living):
    """The living, sorted, of the book of the day on which the name died; those of the list, where there is one."""
    people = [one for one in day_book.people() if one != name]
    if living is None:
        return [one for one in people if day_book.dead_on(one) is None]
    return [one for one in people if one in living]


class Estate:
    def __init__(self, book, code, name, living=None):
        self.day_book = book_of_death(book, name)
        self.code = code
        self.name = name
        # Whom words lead to that day, as far as it was asked for.
        self.known = {}
        self.alive = {}
        self.lines = {}
        self.let_live(living)

    def let_live(self, living):
        """From now on those of the list are the living; without a list those who have no death."""
        self.alive = {}
        for one in lives_in(self.day_book, self.name, living):
            self.alive[one] = True
        self.find_lines()

    def find_lines(self):
        self.lines = {}
        # Whoever stands in for somebody is born later: so the youngest come first, and no line is asked for too early.
        for one in reversed(self.by_births()):
            if one in self.alive or len(self.heirs(one)) > 0:
                self.lines[one] = True

    def by_births(self):
        return sorted(self.day_book.people(), key=lambda one: (self.day_book.born_on(one), one))

    def led_by(self, word, one):
        """Whom a word of the code leads to that day; nobody by a word that the code does not tell."""
        if word == "":
            return []
        return self.code.tongue.led(self.day_book, self.known, word, one)

    def living(self):
        return sorted(self.alive)

    def spouses(self):
        return [one for one in self.led_by(self.code.spouse, self.name) if one in self.alive]

    def takers(self, number):
        word = self.code.classes[number][0]
        counted = self.alive if self.code.classes[number][1] == "heads" else self.lines
        return [one for one in self.led_by(word, self.name) if one in counted]

    def chosen(self):
        for number in range(len(self.code.classes)):
            if len(self.takers(number)) > 0:
                return number
        return None

    def for_spouses(self):
        if len(self.spouses()) == 0:
            return NOTHING
        number = self.chosen()
        return self.code.alone if number is None else self.code.classes[number][2]

    def rest(self):
        return minus(ALL, self.for_spouses())

    def first_of_spouses(self):
        return alike_for(self.spouses(), self.for_spouses())

    def first_of_rest(self):
        number = self.chosen()
        return alike_for([CHEST] if number is None else self.takers(number), self.rest())

    def first(self):
        return gathered(self.first_of_spouses() + self.first_of_rest())

    def heirs(self, one):
        if one in self.alive or one == self.name:
            return []
        return [other for other in self.led_by(self.code.stand, one) if other in self.lines]

    def passed(self, come):
        held = dict(come)
        rows = []
        # Whoever stands in for somebody is born later: so all that comes to one has come when it goes on.
        for one in self.by_births():
            if one in held and one not in self.alive:
                part = held.pop(one)
                rows.append((one, part, self.heirs(one)))
                for other, more in alike_for(self.heirs(one), part):
                    held[other] = plus(held.get(other, NOTHING), more)
        return (gathered(list(held.items())), rows)


def living_at(book, name, living=None):
    return lives_in(book_of_death(book, name), name, living)


def takers(book, code, name, number, living=None):
    return Estate(book, code, name, living).takers(number)


def shares(book, code, name, living=None):
    estate = Estate(book, code, name, living)
    return estate.passed(estate.first())[0]
