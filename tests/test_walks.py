import random
import unittest

import plain
from drawn import book_with, drawn_entries, drawn_way, drawn_ways, refused, short_ways
from heirbook.book import Book
from heirbook.walks import reach, walk
from samples import NUMBERS, OTHER_KINDS, TUPLES

HOUSE = [
    ("born", "ada", "she", 0, "", ""), ("born", "bob", "he", 0, "", ""), ("born", "cat", "she", 1, "", ""),
    ("born", "dan", "he", 10, "bob", "ada"), ("born", "eve", "she", 11, "bob", "ada"),
    ("born", "fay", "", 12, "bob", "cat"), ("born", "gus", "he", 20, "dan", ""), ("born", "hal", "", 21, "", "eve"),
    ("taken", "gus", "eve", 30), ("taken", "gus", "fay", 31), ("taken", "hal", "fay", 32), ("taken", "dan", "cat", 33),
    ("union", "ada", "bob", 5), ("parted", "ada", "bob", 9), ("union", "bob", "cat", 11), ("union", "dan", "fay", 40),
    ("union", "dan", "hal", 41), ("parted", "dan", "hal", 42), ("union", "dan", "hal", 43),
]
NOBODYS = OTHER_KINDS + NUMBERS + TUPLES + ["", "z", "Ada", "ada ", "toolongname", "F", "he"]


class ReachTest(unittest.TestCase):
    def setUp(self):
        self.book = book_with(HOUSE)

    def assert_reach(self, text, name, wanted):
        told = reach(self.book, tuple(text.split()), name)
        self.assertIs(type(told), list)
        self.assertEqual(told, wanted, (text, name))

    def test_plain_ones(self):
        self.assert_reach("", "ada", ["ada"])
        self.assert_reach("he", "bob", ["bob"])
        self.assert_reach("she", "bob", [])
        self.assert_reach("he", "fay", [])
        self.assert_reach("she", "fay", [])
        self.assert_reach("F f", "dan", ["dan", "eve", "fay"])
        self.assert_reach("F f she", "dan", ["eve"])
        self.assert_reach("M m", "dan", ["dan", "eve"])
        self.assert_reach("T", "gus", ["eve", "fay"])
        self.assert_reach("T t", "gus", ["gus", "hal"])
        self.assert_reach("T m", "gus", ["hal"])
        self.assert_reach("S", "dan", ["fay", "hal"])
        self.assert_reach("S S", "fay", ["fay", "hal"])
        self.assert_reach("S", "ada", [])
        self.assert_reach("f f", "bob", ["gus"])
        self.assert_reach("F F F", "gus", [])
        self.assert_reach("f F", "bob", ["bob"])
        self.assert_reach("f F", "ada", [])

    def test_short_ways_in_drawn_books(self):
        for number in range(4):
            entries = drawn_entries(number)
            book, table = book_with(entries), plain.steps_of(entries)
            for way in short_ways(3):
                for name in book.people():
                    self.assertEqual(reach(book, way, name), plain.reach(table, way, name), (number, way, name))

    def test_long_ways_in_drawn_books(self):
        for number in range(20):
            entries = drawn_entries(number, people=12, more=60)
            book, table = book_with(entries), plain.steps_of(entries)
            chance = random.Random(number)
            for way in [drawn_way(chance, length) for length in range(25)]:
                for name in book.people():
                    self.assertEqual(reach(book, way, name), plain.reach(table, way, name), (number, way, name))

    def test_24_steps(self):
        self.assert_reach("F f " * 12, "dan", ["dan", "eve", "fay"])
        self.assert_reach("S " * 24, "hal", ["fay", "hal"])
        self.assert_reach("S " * 23, "hal", ["dan"])
        self.assert_reach("T " * 24, "gus", [])

    def test_many_people_and_24_steps(self):
        book = Book()
        names = [a + b for a in "abcdef" for b in "abcdefghij"]
        book.put(("born", "aa", "he", 0, "", ""))
        for name in names[1:]:
            book.put(("born", name, "", 1, "aa", ""))
        for one, other in zip(names, names[1:]):
            book.put(("union", one, other, 2))
        self.assertEqual(reach(book, ("F", "f") * 12, "ff"), names[1:])
        self.assertEqual(len(walk(book, ("f", "F") * 12, "aa", "aa")), 25)
        self.assertEqual(reach(book, ("S",) * 24, "aa"), names[0:25:2])

    def test_nobodys_names(self):
        for book in (self.book, Book()):
            for name in NOBODYS:
                for way in ((), ("F",), ("he",), ("S", "S")):
                    self.assertEqual(refused(lambda: reach(book, way, name)), "NoPerson")

    def test_what_is_told_is_the_asker_s_own(self):
        for text, name in (("", "ada"), ("S", "dan"), ("he", "bob"), ("F f", "dan"), ("F f S", "gus")):
            way = tuple(text.split())
            told = reach(self.book, way, name)
            kept = list(told)
            told.append("zoe")
            told.reverse()
            self.assertEqual(reach(self.book, way, name), kept)
        self.assertEqual(self.book.step("S", "dan"), ["fay", "hal"])
        self.assertEqual(self.book.entries(), sorted(plain.told(entry) for entry in HOUSE))


class WalkTest(unittest.TestCase):
    def setUp(self):
        self.book = book_with(HOUSE)

    def assert_walks(self, book, table, way):
        """For each two people: a walk just where reach has the second, and each walk is one by the steps."""
        for one in book.people():
            reached = plain.reach(table, way, one)
            for other in book.people():
                told = walk(book, way, one, other)
                if other not in reached:
                    self.assertIsNone(told, (way, one, other))
                else:
                    self.assertTrue(plain.is_walk(table, way, told), (way, one, other, told))
                    self.assertEqual((told[0], told[-1]), (one, other))

    def test_plain_ones(self):
        self.assertEqual(walk(self.book, (), "ada", "ada"), ["ada"])
        self.assertIsNone(walk(self.book, (), "ada", "bob"))
        self.assertEqual(walk(self.book, ("F", "M"), "gus", "ada"), ["gus", "dan", "ada"])
        self.assertEqual(walk(self.book, ("F", "f", "she"), "dan", "eve"), ["dan", "bob", "eve", "eve"])
        self.assertEqual(walk(self.book, ("F", "f"), "dan", "dan"), ["dan", "bob", "dan"])
        self.assertIsNone(walk(self.book, ("S",), "ada", "bob"))
        self.assertIsNone(walk(self.book, ("F", "f", "she"), "dan", "dan"))

    def test_the_house(self):
        table = plain.steps_of(HOUSE)
        for way in short_ways(2) + drawn_ways(5, 60):
            self.assert_walks(self.book, table, way)

    def test_drawn_books(self):
        for number in range(8):
            entries = drawn_entries(number, people=9, more=50)
            book, table = book_with(entries), plain.steps_of(entries)
            chance = random.Random(number)
            for way in [drawn_way(chance, length) for length in list(range(8)) + [12, 18, 23, 24]]:
                self.assert_walks(book, table, way)

    def test_nobodys_names_first_and_second(self):
        for way in ((), ("F",), ("he",), ("T", "t")):
            for name in NOBODYS:
                self.assertEqual(refused(lambda: walk(self.book, way, name, "ada")), "NoPerson")
                self.assertEqual(refused(lambda: walk(self.book, way, "ada", name)), "NoPerson")
                self.assertEqual(refused(lambda: walk(self.book, way, name, name)), "NoPerson")

    def test_what_is_told_is_the_asker_s_own(self):
        told = walk(self.book, ("F", "M"), "gus", "ada")
        told.clear()
        self.assertEqual(walk(self.book, ("F", "M"), "gus", "ada"), ["gus", "dan", "ada"])
        self.assertEqual(self.book.entries(), sorted(plain.told(entry) for entry in HOUSE))


if __name__ == "__main__":
    unittest.main()
