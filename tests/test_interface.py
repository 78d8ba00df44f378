"""The names and arguments of the interface are there as the document tells them."""

import importlib
import inspect
import unittest

FUNCTIONS = {
    "ratios": ["is_whole(thing)", "ratio(top, bottom)", "plus(one, other)", "minus(one, other)", "times(one, other)",
               "over(one, other)", "less(one, other)"],
    "entries": ["is_name(thing)", "is_day(thing)", "is_entry(thing)"],
    "ways": ["read_way(text)", "show_way(way)", "turned(way)"],
    "walks": ["reach(book, way, name)", "walk(book, way, one, other)"],
    "trees": ["book_of(way)"],
    "least": ["within(one, other)", "alike(one, other)", "parted(one, other)", "least(way)"],
    "kin": ["who(book, tongue, word, name)", "joins(book, tongue, word, one, other)", "kin(book, tongues, one, other)"],
    "joined": ["ways_of(tongue, word)", "split(tongue, word, other, second=None)", "word_of(tongue, first, second)"],
    "bars": ["bars(book, tongue, words, one, other)", "may_join(book, tongue, words, one, other)", "free_pairs(book, tongue, words)"],
    "sharing": ["living_at(book, name, living=None)", "takers(book, code, name, number, living=None)",
                "shares(book, code, name, living=None)"],
    "papers": ["paper(book, code, name, living=None)", "lets_by(book, code, name, some, living=None)"],
    "levels": ["level(amount, gifts)", "parts(book, code, name, amount, living=None)"],
    "nights": ["settled(book, code, holdings)"],
}
CLASSES = {
    "book.Book()": ["put(entry)", "entries()", "people()", "sort_of(name)", "born_on(name)", "dead_on(name)",
                    "stands(one, other, day=None)", "gave(giver, taker)", "step(letter, name)", "until(day)"],
    "pieces.Letter(letter)": ["leads_one(book, table, name)", "text()", "leads(book, table, names)"],
    "pieces.Test(sort)": ["leads_one(book, table, name)", "text()", "leads(book, table, names)"],
    "pieces.Said(word)": ["leads_one(book, table, name)", "text()", "leads(book, table, names)"],
    "tongues.Tongue(text)": ["words()", "parts(word)", "text()", "table(book)"],
    "bars.House(tongue, words)": ["put(entry)"],
    "codes.Code(tongue, text)": ["text()"],
    "sharing.Estate(book, code, name, living=None)": [
        "living()", "spouses()", "takers(number)", "chosen()", "for_spouses()", "rest()", "first()", "heirs(one)", "passed(come)"],
    "desk.Desk()": ["say(row)"],
}


def module(name):
    return importlib.import_module(f"heirbook.{name}")


class InterfaceTest(unittest.TestCase):
    def test_functions(self):
        for name, rows in FUNCTIONS.items():
            for row in rows:
                found = getattr(module(name), row.partition("(")[0])
                self.assertEqual(f"{found.__name__}{inspect.signature(found)}", row)

    def test_classes(self):
        for told, rows in CLASSES.items():
            name, _, made = told.partition(".")
            found = getattr(module(name), made.partition("(")[0])
            self.assertEqual(f"{found.__name__}{inspect.signature(found)}", made)
            for row in rows:
                method = getattr(found, row.partition("(")[0])
                arguments = str(inspect.signature(method)).replace("(self, ", "(").replace("(self)", "()")
                self.assertEqual(f"{method.__name__}{arguments}", row)

    def test_the_base_of_pieces(self):
        pieces = module("pieces")
        for one in (pieces.Letter, pieces.Test, pieces.Said):
            self.assertTrue(issubclass(one, pieces.Piece))
            self.assertIs(one.leads, pieces.Piece.leads)


if __name__ == "__main__":
    unittest.main()
