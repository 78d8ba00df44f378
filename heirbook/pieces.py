"""The pieces of words of kin: letters, tests, and words that are said within words."""

from heirbook.walks import led_by_step


class Piece:
    """The base of all pieces; each kind tells by leads_one whom it leads to from one person."""

    def leads(self, book, table, names):
        found = {}
        for name in names:
            for other in self.leads_one(book, table, name):
                found[other] = True
        return sorted(found)


class Letter(Piece):
    def __init__(self, letter):
        self.letter = letter

    def leads_one(self, book, table, name):
        return led_by_step(book, self.letter, name)

    def text(self):
        return self.letter


class Test(Piece):
    def __init__(self, sort):
        self.wanted = sort

    def leads_one(self, book, table, name):
        return led_by_step(book, self.wanted, name)

    def text(self):
        return self.wanted


class Said(Piece):
    def __init__(self, word):
        self.word = word

    def leads_one(self, book, table, name):
        return list(table[self.word][name])

    def text(self):
        return ":" + self.word
