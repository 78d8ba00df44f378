import copy
import random
import unittest

import plain
from drawn import book_with, drawn_entries, refused
from heirbook.book import Book
from heirbook.tongues import Tongue
from samples import NUMBERS, OTHER_KINDS, TUPLES
from words import HOUSE, KIN_ROWS, MARKS, Reading, drawn_rows, is_tongue_text, text_of

KIN = text_of(KIN_ROWS)

RIGHT_TEXTS = [
    "a = F", "abcdefgh = f", "z = he", "child = f | m | t", "a = F other", "a = F elder", "a = F younger", "a = S S S",
    "brother = F f he other | M m he other\nuncle = F :brother | M :brother", "he = he", "she = he\nhe = :she",
    "other = F\na = :other other", "elder = F elder\nyounger = :elder younger\na = :younger :elder other", "s = S\nf = :s",
    "a = F\nb = :a\nc = :a :b\nd = :c :b :a F | :a", "a = F f | F f", "f = f\nm = m\nt = t",
    "a = he she", "b = F\na = :b", "a = " + " ".join(["F"] * 12), "a = " + " ".join(["F"] * 12) + " other",
    "a = " + " | ".join(["F"] * 8), "a = " + " | ".join([" ".join(["he"] * 12) + " younger"] * 8),
]

WRONG_TEXTS = [
    "", " ", "\n", "a", "a =", "a = ", "a=F", "a= F", "a =F", " a = F", "a = F ", "a  = F", "a =  F", "a = F  f", "a = F\n",
    "\na = F", "a = F\n\nb = M", "a = F\n \nb = M", "a = F\r\nb = M", "a = F\tf", "a\t= F", "a = F |", "a = F | ", "a = | F",
    "a =  | F", "a = F |M", "a = F| M", "a = F|M", "a = F  | M", "a = F |  M", "a = F | | M", "a = F |  | M", "a = F || M",
    "a = |", "a = other", "a = elder", "a = younger", "a = F | other", "a = other F", "a = F other elder", "a = F other other",
    "a = F other f", "a = F other | elder", "a = F Other", "a = F older", "a = F others", "a = F mark", "a = f other ",
    "A = F", "Ab = F", "aB = F", "abcdefghi = F", " = F", "= F", "1 = F", "a1 = F", "a-b = F", "a b = F", "a_b = F", "\u00e4 = F",
    "a = F = M", "a = = F", "a = a", "a = A", "a = X", "a = s", "a = He", "a = hes", "a = FF", "a = Ff", "a = heshe",
    "a = :a", "a = :b", "a = :b\nb = F", "b = F\na = b", "b = F\na = : b", "b = F\na = :b:b", "b = F\na = ::b", "b = F\na = :",
    "b = F\na = :B", "b = F\na = F:b", "b = F\na = :bb", "bb = F\na = :b", "b = F\na = :b,", "b = F\nb = M", "b = F\na = M\nb = f",
    "he = F\na = :she", "a = :he", "a = :F", "a = :other", "other = F\na = :elder", "a = F\na = F", "a = F;b = M", "a = F ; b = M",
    "a = " + " ".join(["F"] * 13), "a = " + " ".join(["F"] * 13) + " other", "a = " + " | ".join(["F"] * 9),
    "a = F | " + " ".join(["F"] * 13), "a := F", "a == F", "a = 'F'", "a = F\\nb = M", "a = F\x0bb = M", "a = F\x0cb = M",
    "a = F\u2028b = M", "a = F\x85b = M", "a\u00a0= F", "a = F\u00a0f", "a = F\x00", "#a = F", "a = F # father",
]


def names_of(count):
    return [one + other for one in "abcdefgh" for other in "abcdefgh"][:count]


class ReadTest(unittest.TestCase):
    def assert_no_tongue(self, text):
        self.assertEqual(refused(lambda: Tongue(text)), "NoTongue", repr(text))

    def test_right_texts(self):
        for text in RIGHT_TEXTS:
            self.assertTrue(is_tongue_text(text), text)
            self.assertEqual(Tongue(text).text(), text)

    def test_wrong_texts(self):
        for text in WRONG_TEXTS:
            self.assertFalse(is_tongue_text(text), text)
            self.assert_no_tongue(text)

    def test_other_kinds(self):
        for thing in OTHER_KINDS + NUMBERS + TUPLES + [("a = F",), ["a = F"], b"a = F", {"a": "F"}, {"a = F": 1}]:
            self.assertEqual(refused(lambda: Tongue(thing)), "NoTongue")

    def test_1_40_and_41_rows(self):
        for count in (1, 2, 39, 40):
            names = names_of(count)
            tongue = Tongue("\n".join(f"{name} = F" for name in names))
            self.assertEqual(tongue.words(), names)
        for count in (41, 42, 60):
            self.assert_no_tongue("\n".join(f"{name} = F" for name in names_of(count)))
        names = names_of(40)
        rows = ["aa = F"] + [f"{name} = :{above}" for above, name in zip(names, names[1:])]
        self.assertEqual(Tongue("\n".join(rows)).words(), names)

    def test_8_and_9_parts(self):
        for count in (1, 7, 8):
            self.assertEqual(Tongue("a = " + " | ".join(["F m other"] * count)).parts("a"), [(("F", "m"), "other")] * count)
        for count in (9, 10, 20):
            self.assert_no_tongue("a = " + " | ".join(["F"] * count))
            self.assert_no_tongue("b = F\na = " + " | ".join([":b other"] * count))

    def test_12_and_13_pieces(self):
        for mark in MARKS:
            behind = f" {mark}" if mark else ""
            for count in (1, 2, 11, 12):
                for piece in ("F", "he", ":b"):
                    text = "b = F\na = M | " + " ".join([piece] * count) + behind
                    self.assertEqual(Tongue(text).parts("a"), [(("M",), ""), ((piece,) * count, mark)])
            for count in (13, 14, 24):
                for piece in ("F", "he", ":b"):
                    self.assert_no_tongue("b = F\na = M | " + " ".join([piece] * count) + behind)

    def test_texts_with_one_sign_changed(self):
        chance = random.Random(1)
        signs = "aFf=|:\n  hes"
        told = []
        for turn in range(6000):
            text = chance.choice(RIGHT_TEXTS[:14] + [KIN])
            at = chance.randrange(len(text) + 1)
            text = text[:at] + chance.choice(["", chance.choice(signs)]) + text[at + chance.choice([0, 1, 1]):]
            told.append(refused(lambda: Tongue(text)))
            self.assertEqual(told[-1], None if is_tongue_text(text) else "NoTongue", repr(text))
        self.assertGreater(told.count(None), 300)
        self.assertGreater(told.count("NoTongue"), 300)

    def test_a_refused_text_changes_nothing(self):
        self.assert_no_tongue("a = F\na = M")
        self.assertEqual(Tongue("a = M").parts("a"), [(("M",), "")])
        self.assert_no_tongue("b = :a")


class ToldTest(unittest.TestCase):
    def test_words_parts_and_text(self):
        tongue = Tongue(KIN)
        self.assertEqual(tongue.words(), [word for word, parts in KIN_ROWS])
        for word, parts in KIN_ROWS:
            self.assertEqual(tongue.parts(word), parts)
        self.assertEqual(tongue.text(), KIN)

    def test_kinds(self):
        tongue = Tongue(KIN)
        self.assertIs(type(tongue.words()), list)
        self.assertIs(type(tongue.parts("uncle")), list)
        for part in tongue.parts("uncle"):
            self.assertEqual([type(one) for one in part], [tuple, str])

    def test_words_come_in_the_order_of_rows(self):
        self.assertEqual(Tongue("zz = F\nb = M\na = f\nc = m").words(), ["zz", "b", "a", "c"])

    def test_drawn_ones(self):
        for number in range(150):
            rows = drawn_rows(number)
            tongue = Tongue(text_of(rows))
            self.assertEqual([(word, tongue.parts(word)) for word in tongue.words()], rows)
            self.assertEqual(tongue.text(), text_of(rows))

    def test_no_words(self):
        tongue = Tongue(KIN)
        for thing in OTHER_KINDS + NUMBERS + TUPLES + ["", "aunt", "Uncle", "uncle ", ":uncle", "F", "she", "brother = F", "uncl"]:
            self.assertEqual(refused(lambda: tongue.parts(thing)), "NoWord")
        self.assertEqual(tongue.parts("he"), [(("he",), "")])

    def test_lists_are_the_asker_s_own(self):
        tongue = Tongue(KIN)
        words, parts = tongue.words(), tongue.parts("uncle")
        words.reverse()
        words.pop()
        parts.reverse()
        parts.append(None)
        self.assertEqual(tongue.words(), [word for word, parts in KIN_ROWS])
        self.assertEqual(tongue.parts("uncle"), dict(KIN_ROWS)["uncle"])
        self.assertEqual(tongue.table(book_with(HOUSE)), Reading(HOUSE, KIN_ROWS).table())


class TableTest(unittest.TestCase):
    def assert_table(self, entries, rows, book=None):
        told = Tongue(text_of(rows)).table(book or book_with(entries))
        wanted = Reading(entries, rows).table()
        self.assertEqual(told, wanted)
        self.assertEqual(list(told), list(wanted))
        for word in told:
            self.assertIs(type(told[word]), dict)
            self.assertEqual(list(told[word]), list(wanted[word]))
            self.assertTrue(all(type(names) is list for names in told[word].values()))

    def test_the_house(self):
        self.assert_table(HOUSE, KIN_ROWS)
        table = Tongue(KIN).table(book_with(HOUSE))
        self.assertEqual(table["brother"]["amy"], ["ben", "cal"])
        self.assertEqual(table["brother"]["ben"], ["cal"])
        self.assertEqual(table["uncle"]["eli"], ["cal"])
        self.assertEqual(table["uncle"]["gil"], ["ben", "cal"])
        self.assertEqual(table["elderbro"]["amy"], ["ben"])
        self.assertEqual(table["younger"]["ben"], ["amy", "cal", "deb"])
        self.assertEqual(table["cousin"]["eli"], ["gil"])
        self.assertEqual(table["he"]["ben"], ["ben"])
        self.assertEqual(table["he"]["amy"], [])

    def test_each_mark(self):
        entries = [("born", "dad", "he", 0, "", ""), ("born", "c", "", 5, "dad", ""), ("born", "b", "", 5, "dad", ""),
                   ("born", "a", "", 4, "dad", ""), ("born", "d", "", 6, "dad", ""), ("born", "e", "", 9, "", "")]
        told = Tongue("all = F f\nother = F f other\nelder = F f elder\nyounger = F f younger").table(book_with(entries))
        self.assertEqual([told[word]["b"] for word in told], [["a", "b", "c", "d"], ["a", "c", "d"], ["a"], ["d"]])
        self.assertEqual([told[word]["c"] for word in told], [["a", "b", "c", "d"], ["a", "b", "d"], ["a"], ["d"]])
        self.assertEqual([told[word]["a"] for word in told], [["a", "b", "c", "d"], ["b", "c", "d"], [], ["b", "c", "d"]])
        self.assertEqual([told[word]["d"] for word in told], [["a", "b", "c", "d"], ["a", "b", "c"], ["a", "b", "c"], []])
        self.assertEqual([told[word]["dad"] for word in told], [[], [], [], []])
        self.assertEqual([told[word]["e"] for word in told], [[], [], [], []])

    def test_a_mark_is_for_the_whole_part_and_that_part_alone(self):
        entries = [("born", "dad", "he", 0, "", ""), ("born", "b", "", 5, "dad", ""), ("born", "a", "", 4, "dad", "")]
        self.assertEqual(refused(lambda: Tongue("u = F other f")), "NoTongue")
        told = Tongue("w = F f elder\nv = F f elder | F f\nu = :w F f\nt = :w F f other").table(book_with(entries))
        self.assertEqual([told[word]["b"] for word in told], [["a"], ["a", "b"], ["a", "b"], ["a"]])
        self.assertEqual([told[word]["a"] for word in told], [[], ["a", "b"], [], []])

    def test_words_said_over_several_rows(self):
        text = "up = F | M\nupp = :up :up\nuppp = :upp :up\ndown = f | m\nwide = :upp :down :down other\nall = :wide | :upp | :up"
        rows = [("up", [(("F",), ""), (("M",), "")]), ("upp", [((":up", ":up"), "")]), ("uppp", [((":upp", ":up"), "")]),
                ("down", [(("f",), ""), (("m",), "")]), ("wide", [((":upp", ":down", ":down"), "other")]),
                ("all", [((":wide",), ""), ((":upp",), ""), ((":up",), "")])]
        self.assertEqual(text_of(rows), text)
        self.assert_table(HOUSE, rows)

    def test_drawn_ones(self):
        for number in range(80):
            self.assert_table(drawn_entries(number, people=7, more=25), drawn_rows(number))

    def test_40_rows_each_saying_the_one_above(self):
        names = names_of(40)
        rows = [("aa", [(("F", "f"), ""), (("S",), ""), (("t",), "")])]
        rows += [(name, [((":" + above,), "other"), ((":aa", ":" + above), "")]) for above, name in zip(names, names[1:])]
        self.assert_table(drawn_entries(5, people=8, more=40), rows)

    def test_a_book_of_nobody(self):
        told = Tongue(KIN).table(Book())
        self.assertEqual(told, {word: {} for word, parts in KIN_ROWS})
        self.assertEqual(list(told), [word for word, parts in KIN_ROWS])

    def test_a_book_until_a_day(self):
        book = book_with(HOUSE)
        for day in (-1, 0, 22, 46, 50, 55, 90):
            self.assert_table([entry for entry in HOUSE if plain.day_of(entry) <= day], KIN_ROWS, book.until(day))

    def test_what_is_told_is_the_asker_s_own(self):
        book, tongue = book_with(HOUSE), Tongue(KIN)
        told = tongue.table(book)
        kept = copy.deepcopy(told)
        again = tongue.table(book)
        again["uncle"]["eli"].append("zed")
        again["brother"].clear()
        again.pop("he")
        self.assertEqual(told, kept)
        self.assertEqual(tongue.table(book), kept)
        book.put(("born", "ike", "he", 80, "old", "ula"))
        self.assertEqual(told, kept)
        self.assertEqual(tongue.table(book)["brother"]["amy"], ["ben", "cal", "ike"])
        self.assertEqual(book.entries(), sorted(plain.told(entry) for entry in HOUSE + [("born", "ike", "he", 80, "old", "ula")]))

    def test_no_two_lists_are_one(self):
        told = Tongue("a = F f\nb = :a\nc = :b | :a").table(book_with(HOUSE))
        lists = [names for word in told for names in told[word].values()]
        self.assertEqual(len({id(names) for names in lists}), len(lists))


if __name__ == "__main__":
    unittest.main()
