import random
import unittest

import plain
from drawn import answer, book_with, drawn_entries, refused
from folded import is_within
from heirbook.joined import split, ways_of, word_of
from heirbook.kin import who
from heirbook.least import least
from heirbook.tongues import Tongue
from heirbook.walks import reach
from samples import NUMBERS, OTHER_KINDS, TUPLES
from spelled import all_ways, joined
from words import text_of

NO_WORDS = OTHER_KINDS + NUMBERS + TUPLES + ["", "aunt", "Up", "up ", ":up", "F", "she", "up = F"]

FAMILY = Tongue("\n".join([
    "up = F | M", "down = f | m", "upp = :up :up", "grand = M M | F M | M F | F F", "sib = :up :down", "same = F f | M m",
    "half = F f", "kid = m | f | f he | f F f", "none = F she | M he f", "noup = :none F | F :none", "near = :up | :none",
    "twice = F f | F f F f | F f he | F f", "mark = F f other", "marked = F | :mark", "far = M :marked", "free = S",
    "nephew = :sib :down he", "son = f he | m he", "uncle = :up :sib he", "tag = he",
]))


def of_length(count):
    """A word's row of so many steps, by words of 12 steps and fewer."""
    return "x = " + " ".join(["F"] * 12) + "\ny = " + " ".join([":x"] * (count // 12) + ["M"] * (count % 12))


def drawn_tongue(number):
    """Rows with few letters, so that many ways are alike, within another one, or nevers; marks here and there."""
    chance = random.Random(number)
    letters = chance.choice([["F", "f"], ["F", "f", "he"], ["F", "M", "f", "m"], list(plain.STEPS), ["f", "F", "m", "she"]])
    rows = []
    for name in ["b", "a", "kin", "zz", "up", "x", "other"][:chance.randrange(2, 8)]:
        pieces = letters + [":" + word for word, parts in rows] * 2
        marks = ["", "", "", "", "", "", "", "elder"] if number % 3 == 0 else [""]
        parts = [(tuple(chance.choice(pieces) for turn in range(chance.randrange(1, 5))), chance.choice(marks))
                 for part in range(chance.randrange(1, 4))]
        rows.append((name, parts))
    return rows


class WaysOfTest(unittest.TestCase):
    def assert_ways(self, word, texts, tongue=FAMILY):
        told = ways_of(tongue, word)
        self.assertIs(type(told), list)
        self.assertEqual(told, [tuple(text.split()) for text in texts])

    def test_words_of_one_and_several_parts(self):
        self.assert_ways("half", ["F f"])
        self.assert_ways("up", ["F", "M"])
        self.assert_ways("tag", ["he"])
        self.assert_ways("free", ["S"])

    def test_words_said_within_words(self):
        self.assert_ways("upp", ["F F", "F M", "M F", "M M"])
        self.assert_ways("nephew", ["F f f he", "F f m he", "M m f he", "M m m he"])
        self.assert_ways("uncle", ["F F f he", "F M m he", "M F f he", "M M m he"])

    def test_nevers_are_left_out(self):
        self.assert_ways("sib", ["F f", "M m"])
        self.assert_ways("none", [])
        self.assert_ways("noup", [])
        self.assert_ways("near", ["F", "M"])

    def test_ways_that_are_alike_or_within_another_one(self):
        self.assert_ways("twice", ["F f"])
        self.assert_ways("kid", ["f", "m"])
        self.assert_ways("w", ["F"], Tongue("w = F he | F f F he | F f F"))
        self.assert_ways("w", ["f"], Tongue("w = f F f"))
        self.assert_ways("w", ["f F"], Tongue("w = f F f F | f f F F"))
        self.assert_ways("w", ["F f he", "F f she"], Tongue("w = F f she | F f he | F f he F f he"))
        self.assert_ways("w", ["he"], Tongue("w = he | f F | he he | m M he"))
        self.assert_ways("w", ["he", "m M"], Tongue("w = m M | f F | f f F F | he | m m M M"))

    def test_sorted(self):
        self.assert_ways("w", ["F", "M", "S", "T", "f", "he", "m", "she", "t"],
                         Tongue("v = F | f | T | M\nw = t | she | S | :v | he | m"))
        self.assert_ways("w", ["F", "F F", "F F F"], Tongue("w = F F F | F | F F"))

    def test_drawn_ones(self):
        kinds = []
        for number in range(200):
            rows = drawn_tongue(number)
            tongue, wanted = Tongue(text_of(rows)), all_ways(rows)
            for word in wanted:
                told = answer(lambda: ways_of(tongue, word))
                self.assertEqual(told, wanted[word], (number, word))
                kinds.append(told if isinstance(told, str) else len(told))
        for one in ("Marked", "TooMany", 0, 1, 2, 5, 9):
            self.assertGreater(kinds.count(one), 5, one)

    def test_the_word_leads_where_one_of_its_ways_leads(self):
        for number in range(60):
            rows = drawn_tongue(number)
            tongue, book = Tongue(text_of(rows)), book_with(drawn_entries(number, people=8, more=30))
            for word, parts in rows:
                told = answer(lambda: ways_of(tongue, word))
                if not isinstance(told, str):
                    for name in book.people():
                        reached = {end for way in told for end in reach(book, way, name)}
                        self.assertEqual(sorted(reached), who(book, tongue, word, name), (number, word, name))

    def test_each_way_is_a_least_one_and_within_no_other(self):
        for number in range(120):
            rows = drawn_tongue(number)
            tongue = Tongue(text_of(rows))
            for word, parts in rows:
                told = answer(lambda: ways_of(tongue, word))
                if not isinstance(told, str):
                    self.assertEqual(told, sorted(set(told)))
                    self.assertEqual(told, [least(way) for way in told])
                    self.assertFalse([one for one in told for other in told if one != other and is_within(one, other)])

    def test_marks(self):
        self.assertEqual(refused(lambda: ways_of(FAMILY, "mark")), "Marked")
        self.assertEqual(refused(lambda: ways_of(FAMILY, "marked")), "Marked")
        self.assertEqual(refused(lambda: ways_of(FAMILY, "far")), "Marked")
        for mark in ("other", "elder", "younger"):
            tongue = Tongue(f"a = F | M {mark}\nb = M\nc = M :b | :a\nd = S | :c | S\ne = :b\nf = F | M m | S {mark} | T")
            self.assertEqual([refused(lambda: ways_of(tongue, word)) for word in tongue.words()],
                             ["Marked", None, "Marked", "Marked", None, "Marked"])

    def test_60_and_61_rows_of_steps(self):
        tongue = Tongue("a = F | M | T | f | m\nb = F | M | T | f | m | t\nc = :b | :b\nd = :a :c\ne = :a :b | :a :b | F\n"
                        "g = :a :b | :a :b\nh = :a :b | :a :b | :c\ni = S | :h\nj = S :i\nk = :a :a :a")
        self.assertEqual([refused(lambda: ways_of(tongue, word)) for word in tongue.words()],
                         [None, None, None, None, "TooMany", None, "TooMany", "TooMany", "TooMany", "TooMany"])
        self.assertEqual(ways_of(tongue, "g"), ways_of(tongue, "d"))

    def test_rows_of_steps_are_counted_with_alike_ones_and_nevers(self):
        # 8 ways each put behind 7: 56, and so many more that are alike with one of these, or nevers.
        for more in ("F F", "F she", "M he", "F he F", "he F F"):
            for count, refusal in ((1, None), (4, None), (5, "TooMany"), (6, "TooMany")):
                rest = " | ".join([more] * count)
                tongue = Tongue("a = F | M | T | f | m | t | he | she\nb = F | M | T | f | m | t | he\n"
                                f"c = :a :b | {rest}\nd = F :c")
                self.assertEqual(refused(lambda: ways_of(tongue, "c")), refusal, (more, count))

    def test_nevers_give_no_rows_to_those_who_say_them(self):
        tongue = Tongue("n = F she\na = F | M | T | f | m | t | S | he\nb = :a :a :a :a :n\nc = :n :a :a :a | F | M :n\n"
                        "d = " + " ".join([":a"] * 11 + [":n"]))
        self.assertEqual([ways_of(tongue, word) for word in ("n", "b", "c", "d")], [[], [], [("F",)], []])

    def test_24_and_25_steps(self):
        for count, refusal in ((12, None), (23, None), (24, None), (25, "TooMany"), (26, "TooMany"), (36, "TooMany")):
            tongue = Tongue(of_length(count))
            self.assertEqual(refused(lambda: ways_of(tongue, "y")), refusal, count)
            if refusal is None:
                self.assertEqual(ways_of(tongue, "y"), [("F",) * (count // 12 * 12) + ("M",) * (count % 12)])
        tongue = Tongue(of_length(25) + "\nz = S | :y\na = M :z\nb = F she :y\nc = F | M f :x\nd = :c :c\ne = :x :c :c")
        self.assertEqual([refused(lambda: ways_of(tongue, word)) for word in tongue.words()],
                         [None, "TooMany", "TooMany", "TooMany", "TooMany", None, None, None])

    def test_steps_are_counted_before_ways_are_made_least(self):
        tongue = Tongue("x = " + " ".join(["F", "f"] * 6) + "\ny = S t S t S t S t S t S t\nz = :x :y :y\n"
                        "a = :y :y " + "he " * 9 + "he\nb = :y :y f | :y :y\nc = F she :y :y")
        self.assertEqual(ways_of(tongue, "x"), [("F", "f")])
        self.assertEqual([refused(lambda: ways_of(tongue, word)) for word in tongue.words()],
                         [None, None, "TooMany", "TooMany", "TooMany", "TooMany"])
        tongue = Tongue("x = " + " ".join(["F", "f"] * 6) + "\nz = " + " ".join([":x"] * 12))
        self.assertEqual(ways_of(tongue, "z"), [("F", "f")])

    def test_marked_ahead_of_too_many(self):
        tongue = Tongue(of_length(25) + "\nm = F other\na = :y :m\nb = :m | :y\nc = :y other\nd = S | :c\ne = :a :b\nz = :y")
        self.assertEqual([refused(lambda: ways_of(tongue, word)) for word in tongue.words()],
                         [None, "TooMany"] + ["Marked"] * 6 + ["TooMany"])

    def test_no_word(self):
        for tongue in (FAMILY, Tongue("w = F other"), Tongue(of_length(25))):
            for word in NO_WORDS:
                self.assertEqual(refused(lambda: ways_of(tongue, word)), "NoWord")

    def test_lists_are_the_asker_s_own(self):
        told = ways_of(FAMILY, "upp")
        told.reverse()
        told.append(("S",))
        ways_of(FAMILY, "up").clear()
        self.assert_ways("upp", ["F F", "F M", "M F", "M M"])
        self.assert_ways("up", ["F", "M"])
        self.assertEqual(FAMILY.parts("up"), [(("F",), ""), (("M",), "")])


class SplitTest(unittest.TestCase):
    def assert_split(self, told, tongue, word, second, other):
        """In the told book just one of both words joins the two."""
        self.assertIs(type(told), tuple)
        book, one, end = told
        self.assertEqual([end in who(book, tongue, word, one), end in who(book, second, other, one)].count(True), 1)

    def test_alike(self):
        for word, other in (("upp", "grand"), ("sib", "same"), ("half", "twice"), ("kid", "down"), ("none", "noup"),
                            ("near", "up"), ("up", "up")):
            self.assertIsNone(split(FAMILY, word, other))
            self.assertIsNone(split(FAMILY, other, word))

    def test_not_alike(self):
        for word, other in (("up", "down"), ("half", "sib"), ("none", "up"), ("son", "kid"), ("tag", "none"), ("upp", "up")):
            self.assert_split(split(FAMILY, word, other), FAMILY, word, FAMILY, other)
            self.assert_split(split(FAMILY, other, word), FAMILY, other, FAMILY, word)

    def test_two_tongues(self):
        other = Tongue("up = F\nparent = M | :up\ndown = m | f | t")
        self.assertIsNone(split(FAMILY, "up", "parent", other))
        self.assertIsNone(split(other, "parent", "up", FAMILY))
        self.assertIsNone(split(FAMILY, "up", "up"))
        self.assert_split(split(FAMILY, "up", "up", other), FAMILY, "up", other, "up")
        self.assert_split(split(other, "down", "down", FAMILY), other, "down", FAMILY, "down")
        self.assertEqual(refused(lambda: split(FAMILY, "up", "parent")), "NoWord")
        self.assertEqual(refused(lambda: split(FAMILY, "parent", "up", other)), "NoWord")

    def test_drawn_ones(self):
        kinds = []
        for number in range(0, 150, 2):
            first, second = drawn_tongue(number), drawn_tongue(number + 1)
            tongue, ones = Tongue(text_of(first)), all_ways(first)
            for rows in (first, second):
                against, others = Tongue(text_of(rows)), all_ways(rows)
                for word in list(ones)[:3]:
                    for other in list(others)[-3:]:
                        self.assert_told(tongue, ones, word, against, others, other, kinds)
        for one in ("Marked", "TooMany", "alike", "parted"):
            self.assertGreater(kinds.count(one), 30, one)

    def assert_told(self, tongue, ones, word, against, others, other, kinds):
        refusals = [thing for thing in (ones[word], others[other]) if isinstance(thing, str)]
        if refusals:
            self.assertEqual(refused(lambda: split(tongue, word, other, against)), refusals[0])
            kinds.append(refusals[0])
            return
        told = split(tongue, word, other, against)
        self.assertEqual(told is None, ones[word] == others[other], (tongue.text(), word, against.text(), other))
        if told is not None:
            self.assert_split(told, tongue, word, against, other)
        kinds.append("alike" if told is None else "parted")

    def test_refusals(self):
        tongue = Tongue(of_length(25) + "\nm = F other\nn = :m :y\ngood = F")
        kinds = {"m": "Marked", "n": "Marked", "y": "TooMany", "good": None}
        other = Tongue(tongue.text())
        for second in (None, tongue, other):
            for word in kinds:
                for against in kinds:
                    wanted = kinds[word] or kinds[against]
                    self.assertEqual(refused(lambda: split(tongue, word, against, second)), wanted, (word, against))
            for thing in NO_WORDS:
                for word in list(kinds) + [None, "no"]:
                    self.assertEqual(refused(lambda: split(tongue, thing, word, second)), "NoWord")
                    self.assertEqual(refused(lambda: split(tongue, word, thing, second)), "NoWord")

    def test_the_first_tongue_has_the_first_word(self):
        one, other = Tongue("a = F other\nb = F"), Tongue(of_length(25) + "\na = F\nc = F")
        self.assertEqual(refused(lambda: split(one, "a", "y", other)), "Marked")
        self.assertEqual(refused(lambda: split(other, "y", "a", one)), "TooMany")
        self.assertEqual(refused(lambda: split(one, "a", "b", other)), "NoWord")
        self.assertEqual(refused(lambda: split(other, "y", "c", one)), "NoWord")
        self.assertIsNone(split(one, "b", "c", other))

    def test_the_book_is_the_asker_s_own(self):
        book, one, end = split(FAMILY, "up", "down")
        kept = book.entries()
        book.put(("born", "zzzzzzzz", "", 100, "", ""))
        again = split(FAMILY, "up", "down")[0]
        self.assertEqual(len(again.entries()), len(kept))


class WordOfTest(unittest.TestCase):
    def test_in_the_order_of_rows(self):
        self.assertEqual(word_of(FAMILY, "up", "up"), ["upp", "grand"])
        self.assertEqual(word_of(FAMILY, "up", "down"), ["sib", "same"])
        self.assertEqual(word_of(FAMILY, "sib", "son"), ["nephew"])
        self.assertEqual(word_of(FAMILY, "up", "tag"), [])
        self.assertEqual(word_of(FAMILY, "up", "none"), ["none", "noup"])
        self.assertEqual(word_of(FAMILY, "none", "up"), ["none", "noup"])
        self.assertEqual(word_of(FAMILY, "half", "half"), ["half", "twice"])
        self.assertEqual(word_of(FAMILY, "down", "tag"), ["son"])
        self.assertEqual(word_of(FAMILY, "free", "free"), [])
        self.assertEqual(word_of(Tongue("z = F f\na = F f F f\nm = f F"), "z", "a"), ["z", "a"])
        self.assertIs(type(word_of(FAMILY, "up", "up")), list)

    def test_words_that_are_refused_are_passed_over(self):
        rows = of_length(25) + "\nm = F F other\nff = F F\nf = F\nn = :m\ngg = :f :f\nl = :y | F F"
        self.assertEqual(word_of(Tongue(rows), "f", "f"), ["ff", "gg"])

    def test_drawn_ones(self):
        kinds = []
        for number in range(80):
            rows = drawn_tongue(number)
            tongue, ones = Tongue(text_of(rows)), all_ways(rows)
            for first in list(ones)[:4]:
                for second in list(ones)[-3:]:
                    told = answer(lambda: word_of(tongue, first, second))
                    self.assertEqual(told, joined(ones, first, second), (number, first, second))
                    kinds.append(told if isinstance(told, str) else len(told))
        for one in ("Marked", "TooMany", 0, 1, 2):
            self.assertGreater(kinds.count(one), 5, one)

    def test_60_and_61_rows_of_a_joined_word(self):
        tongue = Tongue("six = F | M | T | f | m | t\nten = :six | F F | M M | T T | S\nall = :six :ten\n"
                        "more = :ten | he F F\nelf = :ten | F M")
        self.assertEqual(word_of(tongue, "six", "ten"), ["all"])
        self.assertEqual(word_of(tongue, "six", "more"), ["all"])
        self.assertEqual(refused(lambda: word_of(tongue, "six", "elf")), "TooMany")
        self.assertEqual(refused(lambda: word_of(tongue, "ten", "ten")), "TooMany")

    def test_24_and_25_steps_of_a_joined_word(self):
        tongue = Tongue(of_length(24) + "\no = F\nt = S\nu = :y\nthirteen = :x F\neleven = F F F F F F F F F F F")
        self.assertEqual(word_of(tongue, "x", "x"), ["y", "u"])
        self.assertEqual(word_of(tongue, "thirteen", "eleven"), ["y", "u"])
        for first, second in (("y", "o"), ("t", "y"), ("thirteen", "x"), ("y", "y")):
            self.assertEqual(refused(lambda: word_of(tongue, first, second)), "TooMany")

    def test_nothing_is_joined_where_one_has_no_ways(self):
        tongue = Tongue("none = F she\nten = F | M | T | f | m | t | S | he\nbig = :ten :ten :none\nw = F")
        self.assertEqual(word_of(tongue, "ten", "none"), ["none", "big"])
        self.assertEqual(word_of(tongue, "big", "ten"), ["none", "big"])

    def test_refusals(self):
        tongue = Tongue(of_length(25) + "\nm = F other\nn = :m :y\ngood = F")
        kinds = {"m": "Marked", "n": "Marked", "y": "TooMany", "good": None}
        for first in kinds:
            for second in kinds:
                self.assertEqual(refused(lambda: word_of(tongue, first, second)), kinds[first] or kinds[second])
        for thing in NO_WORDS:
            for word in list(kinds) + [None, "no"]:
                self.assertEqual(refused(lambda: word_of(tongue, thing, word)), "NoWord")
                self.assertEqual(refused(lambda: word_of(tongue, word, thing)), "NoWord")

    def test_joined_words_lead_where_the_second_leads_from_those_of_the_first(self):
        for number in range(40):
            rows = drawn_tongue(number)
            tongue, book = Tongue(text_of(rows)), book_with(drawn_entries(number, people=7, more=30))
            for first, parts in rows[:3]:
                for second, parts in rows[:3]:
                    words = answer(lambda: word_of(tongue, first, second))
                    if isinstance(words, str):
                        continue
                    for name in book.people():
                        led = {end for one in who(book, tongue, first, name) for end in who(book, tongue, second, one)}
                        for word in words:
                            self.assertEqual(who(book, tongue, word, name), sorted(led))

    def test_lists_are_the_asker_s_own(self):
        word_of(FAMILY, "up", "up").clear()
        self.assertEqual(word_of(FAMILY, "up", "up"), ["upp", "grand"])


if __name__ == "__main__":
    unittest.main()
