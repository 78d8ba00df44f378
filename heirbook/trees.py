"""The book of a way: a book that has nothing but what the way asks for."""

from heirbook.book import Book
from heirbook.entries import LETTERS
from heirbook.ways import is_test

SORT_OF_PARENT = {"F": "he", "M": "she"}
LETTER_UP = {"f": "F", "m": "M"}


class Tree:
    """The people whom a way comes to, by numbers from 0 on.

    Each step leads to somebody new, but for a step up to a father or mother from whom the way came down: there is
    but one of them. So each person is bound to the others by one chain alone, and one day a step keeps parents and
    takers ahead of children.
    """

    def __init__(self):
        self.days = [0]
        self.sorts = [""]
        self.parents = {}
        self.takings = []
        self.unions = []
        self.clash = False
        self.here = 0

    def go(self, step):
        begin = self.here
        if is_test(step):
            self.ask(begin, step)
        elif step in SORT_OF_PARENT:
            self.go_up(step)
        elif step in LETTER_UP:
            self.ask(begin, SORT_OF_PARENT[LETTER_UP[step]])
            self.parents[(LETTER_UP[step], self.grow(1))] = begin
        elif step == "T":
            self.takings.append((begin, self.grow(-1)))
        elif step == "t":
            self.takings.append((self.grow(1), begin))
        else:
            self.unions.append((begin, self.grow(0)))

    def go_up(self, letter):
        child = self.here
        if (letter, child) in self.parents:
            self.here = self.parents[(letter, child)]
        else:
            self.parents[(letter, child)] = self.grow(-1)
            self.ask(self.here, SORT_OF_PARENT[letter])

    def grow(self, later):
        """Goes on to somebody new, born so much later than the one the way is at, and tells the number."""
        self.days.append(self.days[self.here] + later)
        self.sorts.append("")
        self.here = len(self.days) - 1
        return self.here

    def ask(self, number, sort):
        if self.sorts[number] == "":
            self.sorts[number] = sort
        elif self.sorts[number] != sort:
            self.clash = True


def name_of(number):
    return LETTERS[number // 26] + LETTERS[number % 26]


def parent_name(tree, letter, number):
    if (letter, number) not in tree.parents:
        return ""
    return name_of(tree.parents[(letter, number)])


def birth(tree, number):
    father = parent_name(tree, "F", number)
    mother = parent_name(tree, "M", number)
    return ("born", name_of(number), tree.sorts[number], tree.days[number], father, mother)


def book_of_tree(tree):
    book = Book()
    for number in sorted(range(len(tree.days)), key=lambda one: tree.days[one]):
        book.put(birth(tree, number))
    # On the last of the days everybody is born.
    day = max(tree.days)
    for child, taker in tree.takings:
        book.put(("taken", name_of(child), name_of(taker), day))
    for one, other in tree.unions:
        book.put(("union", name_of(one), name_of(other), day))
    return book


def book_of(way):
    tree = Tree()
    for step in way:
        tree.go(step)
    if tree.clash:
        return None
    return (book_of_tree(tree), name_of(0), name_of(tree.here))
