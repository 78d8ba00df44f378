import copy
import unittest

import plain
from drawn import book_with, drawn_entries, refused
from heirbook.book import Book
from heirbook.kin import joins, kin, who
from heirbook.tongues import Tongue
from samples import NUMBERS, OTHER_KINDS, TUPLES
from words import HOUSE, KIN_ROWS, Reading, drawn_rows, keeps, text_of

KIN = Tongue(text_of(KIN_ROWS))
NOBODYS = OTHER_KINDS + NUMBERS + TUPLES + ["", "zed", "Ben", "ben ", "uncle", "toolongname", "F"]
NO_WORDS = OTHER_KINDS + NUMBERS + TUPLES + ["", "aunt", "Uncle", "uncle ", ":uncle", "F", "she", "ben", "F f"]


class WhoTest(unittest.TestCase):
    def test_the_house(self):
        book = book_with(HOUSE)
        self.assertEqual(who(book, KIN, "uncle", "eli"), ["cal"])
        self.assertEqual(who(book, KIN, "uncle", "gil"), ["ben", "cal"])
        self.assertEqual(who(book, KIN, "brother", "amy"), ["ben", "cal"])
        self.assertEqual(who(book, KIN, "brother", "old"), [])
        self.assertEqual(who(book, KIN, "he", "old"), ["old"])
        self.assertEqual(who(book, KIN, "younger", "ben"), ["amy", "cal", "deb"])

    def test_all_words_and_people(self):
        for number in range(30):
            entries = HOUSE if number == 0 else drawn_entries(number, people=8, more=40)
            rows = KIN_ROWS if number == 0 else drawn_rows(number)
            book, tongue, reading = book_with(entries), Tongue(text_of(rows)), Reading(entries, rows)
            for word, parts in rows:
                for name in book.people():
                    told = who(book, tongue, word, name)
                    self.assertIs(type(told), list)
                    self.assertEqual(told, sorted(reading.by_word(word, name)))

    def test_refusals(self):
        for book in (Book(), book_with(HOUSE)):
            for name in NOBODYS:
                self.assertEqual(refused(lambda: who(book, KIN, "uncle", name)), "NoPerson")
                self.assertEqual(refused(lambda: who(book, KIN, "aunt", name)), "NoWord")
            for word in NO_WORDS:
                for name in ("ben", "zed", None, []):
                    self.assertEqual(refused(lambda: who(book, KIN, word, name)), "NoWord")

    def test_what_is_told_is_the_asker_s_own(self):
        book = book_with(HOUSE)
        before = KIN.table(book)
        told = who(book, KIN, "brother", "amy")
        told.append("zed")
        self.assertEqual(who(book, KIN, "brother", "amy"), ["ben", "cal"])
        self.assertEqual(KIN.table(book), before)
        told = who(book, KIN, "brother", "amy")
        book.put(("born", "ike", "he", 80, "old", "ula"))
        self.assertEqual(told, ["ben", "cal"])
        self.assertEqual(who(book, KIN, "brother", "amy"), ["ben", "cal", "ike"])


class JoinsTest(unittest.TestCase):
    def assert_joins(self, book, tongue, entries, reading, word):
        """For each two people: a tuple just where the word leads from the one to the other, and a right one."""
        parts = reading.rows[word]
        for one in book.people():
            for other in book.people():
                told = joins(book, tongue, word, one, other)
                if other not in reading.by_word(word, one):
                    self.assertIsNone(told, (word, one, other))
                    continue
                self.assertIs(type(told), tuple)
                number, names = told
                self.assertIs(type(number), int)
                self.assertIn(number, range(len(parts)))
                pieces, mark = parts[number]
                self.assertIs(type(names), list)
                self.assertEqual(len(names), len(pieces) + 1)
                self.assertEqual((names[0], names[-1]), (one, other))
                for piece, begin, end in zip(pieces, names, names[1:]):
                    self.assertIn(end, reading.by_piece(piece, begin), (word, told))
                self.assertTrue(keeps(entries, mark, one, other), (word, told))

    def test_the_house(self):
        book = book_with(HOUSE)
        self.assertEqual(joins(book, KIN, "uncle", "eli", "cal"), (0, ["eli", "ben", "cal"]))
        self.assertIn(joins(book, KIN, "uncle", "gil", "ben"), ((0, ["gil", "cal", "ben"]), (1, ["gil", "amy", "ben"])))
        self.assertEqual(joins(book, KIN, "he", "old", "old"), (0, ["old", "old"]))
        self.assertEqual(joins(book, KIN, "same", "deb", "deb"), (1, ["deb", "ula", "deb"]))
        self.assertEqual(joins(book, KIN, "younger", "amy", "deb"), (1, ["amy", "ula", "deb"]))
        self.assertIsNone(joins(book, KIN, "younger", "amy", "cal"))
        self.assertIsNone(joins(book, KIN, "brother", "ben", "ben"))
        self.assertIsNone(joins(book, KIN, "uncle", "cal", "eli"))
        self.assertIsNone(joins(book, KIN, "brother", "old", "old"))

    def test_a_part_whose_mark_is_kept(self):
        entries = [("born", "dad", "he", 0, "", ""), ("born", "b", "", 5, "dad", ""), ("born", "a", "", 4, "dad", "")]
        tongue = Tongue("w = F f younger | F f elder | F f | f F other | F f other")
        book = book_with(entries)
        self.assertEqual(joins(book, tongue, "w", "b", "b"), (2, ["b", "dad", "b"]))
        self.assertIn(joins(book, tongue, "w", "b", "a")[0], (1, 2, 4))
        self.assertIn(joins(book, tongue, "w", "a", "b")[0], (0, 2, 4))
        self.assertIsNone(joins(book, tongue, "w", "dad", "dad"))

    def test_all_words_and_people(self):
        for number in range(30):
            entries = HOUSE if number == 0 else drawn_entries(number, people=7, more=40)
            rows = KIN_ROWS if number == 0 else drawn_rows(number)
            book, tongue, reading = book_with(entries), Tongue(text_of(rows)), Reading(entries, rows)
            for word, parts in rows:
                self.assert_joins(book, tongue, entries, reading, word)

    def test_refusals(self):
        book = book_with(HOUSE)
        for name in NOBODYS:
            for one, other in ((name, "ben"), ("ben", name), (name, name)):
                self.assertEqual(refused(lambda: joins(book, KIN, "uncle", one, other)), "NoPerson")
                self.assertEqual(refused(lambda: joins(book, KIN, "aunt", one, other)), "NoWord")
        for word in NO_WORDS:
            for one, other in (("ben", "amy"), ("zed", "ben"), ("ben", "zed"), (None, [])):
                self.assertEqual(refused(lambda: joins(book, KIN, word, one, other)), "NoWord")

    def test_what_is_told_is_the_asker_s_own(self):
        book = book_with(HOUSE)
        joins(book, KIN, "uncle", "eli", "cal")[1].clear()
        self.assertEqual(joins(book, KIN, "uncle", "eli", "cal"), (0, ["eli", "ben", "cal"]))
        self.assertEqual(book.entries(), sorted(plain.told(entry) for entry in HOUSE))


class KinTest(unittest.TestCase):
    def test_the_house(self):
        book = book_with(HOUSE)
        self.assertEqual(kin(book, [KIN], "eli", "cal"), [(0, "uncle")])
        self.assertEqual(kin(book, [KIN], "amy", "ben"), [(0, "brother"), (0, "elderbro"), (0, "same")])
        self.assertEqual(kin(book, [KIN], "ben", "ben"), [(0, "same"), (0, "he")])
        self.assertEqual(kin(book, [KIN], "hob", "old"), [])

    def test_several_tongues_one_twice_and_none(self):
        book = book_with(HOUSE)
        other = Tongue("zz = F F\nuncle = F F f\nab = S")
        self.assertEqual(kin(book, [other, KIN, other], "eli", "cal"), [(0, "uncle"), (1, "uncle"), (2, "uncle")])
        self.assertEqual(kin(book, [KIN, other, other], "eli", "old"), [(1, "zz"), (2, "zz")])
        self.assertEqual(kin(book, [KIN, KIN], "eli", "cal"), [(0, "uncle"), (1, "uncle")])
        self.assertEqual(kin(book, [], "eli", "cal"), [])

    def test_all_people(self):
        for number in range(12):
            entries = HOUSE if number == 0 else drawn_entries(number, people=8, more=40)
            every = [KIN_ROWS, drawn_rows(number), drawn_rows(number + 100), drawn_rows(number)]
            book, tongues = book_with(entries), [Tongue(text_of(rows)) for rows in every]
            readings = [Reading(entries, rows) for rows in every]
            for one in book.people():
                for other in book.people():
                    wanted = [(turn, word) for turn, reading in enumerate(readings) for word in reading.rows
                              if other in reading.by_word(word, one)]
                    self.assertEqual(kin(book, tongues, one, other), wanted)

    def test_refusals(self):
        for book in (book_with(HOUSE), Book()):
            for tongues in ([], [KIN], [KIN, KIN]):
                for name in NOBODYS:
                    for one, other in ((name, "ben"), ("ben", name), (name, name)):
                        self.assertEqual(refused(lambda: kin(book, tongues, one, other)), "NoPerson")

    def test_what_is_handed_in_stays_and_what_is_told_is_the_asker_s_own(self):
        book, tongues = book_with(HOUSE), [KIN, Tongue("a = F")]
        kept = copy.copy(tongues)
        told = kin(book, tongues, "eli", "cal")
        self.assertIs(type(told), list)
        self.assertTrue(all(type(pair) is tuple for pair in told))
        told.clear()
        self.assertEqual(tongues, kept)
        self.assertEqual(kin(book, tongues, "eli", "cal"), [(0, "uncle")])
        self.assertEqual(book.entries(), sorted(plain.told(entry) for entry in HOUSE))


if __name__ == "__main__":
    unittest.main()
