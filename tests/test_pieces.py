import copy
import unittest

import plain
from drawn import book_with, drawn_entries
from heirbook.pieces import Letter, Piece, Said, Test
from words import HOUSE

TABLE = {
    "uncle": {"amy": ["ben", "cal", "old"], "ben": [], "cal": ["amy"], "old": ["cal", "ula"]},
    "he": {"amy": ["gil"], "ben": ["amy", "ben"], "cal": [], "old": []},
}


class KindsTest(unittest.TestCase):
    def test_piece_is_the_base(self):
        for one in (Letter("F"), Test("he"), Said("uncle")):
            self.assertIsInstance(one, Piece)
            self.assertEqual(type(one).__bases__, (Piece,))
            self.assertIs(type(one).leads, Piece.leads)

    def test_texts(self):
        for letter in plain.LETTERS:
            self.assertEqual(Letter(letter).text(), letter)
        for sort in plain.TESTS:
            self.assertEqual(Test(sort).text(), sort)
        for word in ("uncle", "he", "a", "other", "abcdefgh"):
            self.assertEqual(Said(word).text(), ":" + word)


class LeadsTest(unittest.TestCase):
    def setUp(self):
        self.book = book_with(HOUSE)

    def test_letters(self):
        for number in range(6):
            entries = drawn_entries(number)
            book, people = book_with(entries), sorted(plain.births(entries))
            for letter in plain.LETTERS:
                for name in people:
                    self.assertEqual(Letter(letter).leads_one(book, {}, name), plain.step(entries, letter, name))
                for names in (people, people[::-1], people[:1], people[2:4] + people[3:], [], [people[0]] * 3):
                    wanted = sorted({other for name in names for other in plain.step(entries, letter, name)})
                    self.assertEqual(Letter(letter).leads(book, {}, names), wanted)

    def test_tests(self):
        for name, sort in (("ben", "he"), ("amy", "she"), ("deb", ""), ("hob", "")):
            for asked in ("he", "she"):
                self.assertEqual(Test(asked).leads_one(self.book, {}, name), [name] if asked == sort else [])
        self.assertEqual(Test("he").leads(self.book, {}, ["old", "amy", "deb", "ben", "old"]), ["ben", "old"])
        self.assertEqual(Test("she").leads(self.book, {}, ["old", "amy", "deb", "ben"]), ["amy"])
        self.assertEqual(Test("she").leads(self.book, {}, ["old", "deb"]), [])
        self.assertEqual(Test("she").leads(self.book, {}, []), [])

    def test_words(self):
        for word in TABLE:
            for name in TABLE[word]:
                self.assertEqual(Said(word).leads_one(self.book, TABLE, name), TABLE[word][name])
                # Just the word that is said is needed.
                self.assertEqual(Said(word).leads_one(self.book, {word: TABLE[word]}, name), TABLE[word][name])
        self.assertEqual(Said("uncle").leads(self.book, TABLE, ["old", "amy"]), ["ben", "cal", "old", "ula"])
        self.assertEqual(Said("uncle").leads(self.book, TABLE, ["cal", "cal", "ben", "cal"]), ["amy"])
        self.assertEqual(Said("uncle").leads(self.book, TABLE, ["ben"]), [])
        self.assertEqual(Said("uncle").leads(self.book, TABLE, []), [])
        self.assertEqual(Said("he").leads(self.book, TABLE, ["ben", "amy"]), ["amy", "ben", "gil"])

    def test_several_people(self):
        self.assertEqual(Letter("f").leads(self.book, {}, ["old", "ben"]), ["amy", "ben", "cal", "eli", "fay"])
        self.assertEqual(Letter("F").leads(self.book, {}, ["ben", "amy", "gil", "gil", "old"]), ["cal", "old"])
        self.assertEqual(Letter("T").leads(self.book, {}, ["gil", "eli"]), ["ben", "deb"])
        self.assertEqual(Letter("t").leads(self.book, {}, ["deb", "ben"]), ["eli", "gil"])
        self.assertEqual(Letter("S").leads(self.book, {}, ["old", "ula", "ben", "cal"]), ["amy", "old", "ula"])

    def test_what_is_handed_in_stays(self):
        table = copy.deepcopy(TABLE)
        for piece in (Letter("f"), Letter("S"), Test("he"), Said("uncle"), Said("he")):
            names = ["old", "cal", "ben", "ben"]
            for told in (piece.leads(self.book, table, names), piece.leads_one(self.book, table, "old"),
                         piece.leads_one(self.book, table, "ben")):
                self.assertIs(type(told), list)
                told.append("zed")
                told.reverse()
            self.assertEqual(names, ["old", "cal", "ben", "ben"])
        self.assertEqual(table, TABLE)
        self.assertEqual(self.book.entries(), sorted(plain.told(entry) for entry in HOUSE))
        self.assertEqual(self.book.step("S", "old"), ["ula"])

    def test_what_was_told_stays(self):
        table = copy.deepcopy(TABLE)
        told = [Said("uncle").leads_one(self.book, table, "amy"), Said("uncle").leads(self.book, table, ["amy"])]
        table["uncle"]["amy"].append("zed")
        self.assertEqual(told, [["ben", "cal", "old"], ["ben", "cal", "old"]])
        told = [Letter("f").leads_one(self.book, {}, "ben"), Letter("f").leads(self.book, {}, ["ben"])]
        self.book.put(("born", "ann", "", 77, "ben", ""))
        self.assertEqual(told, [["eli", "fay"], ["eli", "fay"]])
        self.assertEqual(Letter("f").leads(self.book, {}, ["ben"]), ["ann", "eli", "fay"])

    def test_names_of_several_letters(self):
        """Great and small, and lists that come sorted whatever the order of what was handed in."""
        table = {"w": {"old": ["x", "aa", "b"][::-1], "ben": ["z"]}}
        self.assertEqual(Said("w").leads(self.book, table, ["ben", "old"]), ["aa", "b", "x", "z"])


if __name__ == "__main__":
    unittest.main()
