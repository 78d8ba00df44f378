import string
import unittest

from heirbook.entries import is_day, is_entry, is_name
from samples import NUMBERS, OTHER_KINDS, TEXTS, TUPLES

FIRST, LAST = -10 ** 18, 10 ** 18

# What each place of each kind takes, told anew here, apart from the program's own table.
PLACES = {
    "born": ["name", "sort", "day", "parent", "parent"],
    "taken": ["name", "name", "day"],
    "union": ["name", "name", "day"],
    "parted": ["name", "name", "day"],
    "dead": ["name", "day"],
    "given": ["name", "name", "amount", "day"],
}

WRONG_NAMES = [
    "annabella", "abcdefghij", "Ann", "ANN", "A", "anN", "ann1", "1", "an n", " ann", "ann ", " ", "ann\n", "\n", "a-b",
    "a_b", "`", "{", "@", "a.", "'", "\0", "\u00e4", "\u00e9", "\u00df", "\u0131", "\u00aa", "\u0430", "\uff41",
    "\U0001d41a", "a\u0301",
]
RIGHT_NAMES = ["a", "z", "ann", "zz", "abcdefgh", "stuvwxyz", "he", "born"]

RIGHT = {
    "name": RIGHT_NAMES,
    "parent": RIGHT_NAMES + [""],
    "sort": ["he", "she", ""],
    "day": [FIRST, FIRST + 1, -1, 0, 1, LAST - 1, LAST],
    "amount": [1, 2, LAST - 1, LAST],
}

WRONG = {
    "name": WRONG_NAMES + [""] + NUMBERS + TUPLES + OTHER_KINDS,
    "parent": WRONG_NAMES + ["-"] + NUMBERS + TUPLES + OTHER_KINDS,
    "sort": ["He", "SHE", "h", "s", "e", "sh", "it", "hes", "he ", " ", "-", "she\n"] + NUMBERS + TUPLES + OTHER_KINDS,
    "day": [FIRST - 1, LAST + 1, 10 ** 60, -10 ** 60] + TEXTS + TUPLES + OTHER_KINDS,
    "amount": [0, -1, FIRST, LAST + 1, 10 ** 60] + TEXTS + TUPLES + OTHER_KINDS,
}

WRONG_WORDS = ["", "birth", "Born", "BORN", "born ", "bor", "deads", "gave", "he", "ann"] + NUMBERS + TUPLES + OTHER_KINDS

GOOD = [
    ("born", "ann", "she", 5, "", ""),
    ("born", "bob", "he", 25, "cid", "ann"),
    ("born", "bob", "", 25, "cid", ""),
    ("born", "bob", "", -25, "", "ann"),
    ("born", "ann", "she", FIRST, "ann", "ann"),
    ("taken", "bob", "dan", 30),
    ("union", "ann", "cid", 20),
    ("union", "ann", "ann", 20),
    ("parted", "cid", "ann", LAST),
    ("dead", "ann", 80),
    ("given", "ann", "bob", 1, 40),
    ("given", "ann", "bob", LAST, 0),
]


class EntryCase(unittest.TestCase):
    def assert_told(self, asked, thing, wanted):
        told = asked(thing)
        # A failed comparison would print the thing, and some of them break when they are looked at.
        if told is not wanted:
            self.fail(f"told {told!r} of a {type(thing).__name__}: {thing!r}")


class NameTest(EntryCase):
    def test_each_letter(self):
        self.assertEqual(len(string.ascii_lowercase), 26)
        for letter in string.ascii_lowercase:
            self.assert_told(is_name, letter, True)
            self.assert_told(is_name, letter * 8, True)

    def test_lengths(self):
        for length in range(0, 30):
            self.assert_told(is_name, "b" * length, 1 <= length <= 8)

    def test_every_other_sign_is_none(self):
        for number in list(range(0, 0x3000)) + list(range(0xff00, 0xffff)) + [0x1d41a, 0x10ffff]:
            sign = chr(number)
            for text in (sign, "ab" + sign, sign + "ab", "a" + sign + "b"):
                self.assert_told(is_name, text, sign in string.ascii_lowercase)

    def test_wrong_texts(self):
        for text in WRONG_NAMES + [""]:
            self.assert_told(is_name, text, False)

    def test_other_kinds(self):
        for thing in NUMBERS + TUPLES + OTHER_KINDS + [("a", "n"), ["a", "n"]]:
            self.assert_told(is_name, thing, False)


class DayTest(EntryCase):
    def test_the_ends_and_within(self):
        for day in RIGHT["day"]:
            self.assert_told(is_day, day, True)

    def test_beyond_the_ends(self):
        for day in (FIRST - 1, LAST + 1, 10 ** 60, -10 ** 60):
            self.assert_told(is_day, day, False)

    def test_truths_and_other_kinds(self):
        for thing in [True, False, 1e18, -1e18] + TEXTS + TUPLES + OTHER_KINDS:
            self.assert_told(is_day, thing, False)


class EntryTest(EntryCase):
    def test_good_ones(self):
        for entry in GOOD:
            self.assert_told(is_entry, entry, True)
        self.assertEqual({entry[0] for entry in GOOD}, set(PLACES))

    def test_each_place_takes_all_that_is_right(self):
        for entry in GOOD:
            for number, kind in enumerate(PLACES[entry[0]], start=1):
                for part in RIGHT[kind]:
                    self.assert_told(is_entry, entry[:number] + (part,) + entry[number + 1:], True)

    def test_each_place_refuses_all_that_is_wrong(self):
        for entry in GOOD:
            for number, kind in enumerate(PLACES[entry[0]], start=1):
                for part in WRONG[kind]:
                    self.assert_told(is_entry, entry[:number] + (part,) + entry[number + 1:], False)

    def test_first_words(self):
        for entry in GOOD:
            for word in WRONG_WORDS:
                self.assert_told(is_entry, (word,) + entry[1:], False)

    def test_the_word_of_another_kind(self):
        for entry in GOOD:
            for word in PLACES:
                same = PLACES[word] == PLACES[entry[0]]
                self.assert_told(is_entry, (word,) + entry[1:], same)

    def test_one_part_too_few(self):
        for entry in GOOD:
            for number in range(len(entry)):
                self.assert_told(is_entry, entry[:number] + entry[number + 1:], False)
                self.assert_told(is_entry, entry[:number], False)

    def test_one_part_too_many(self):
        for entry in GOOD:
            for more in ("", "ann", 1, None):
                for number in range(1, len(entry) + 1):
                    self.assert_told(is_entry, entry[:number] + (more,) + entry[number:], False)
            self.assert_told(is_entry, entry + entry, False)

    def test_no_tuple(self):
        for entry in GOOD:
            self.assert_told(is_entry, list(entry), False)
            self.assert_told(is_entry, dict(enumerate(entry)), False)
            self.assert_told(is_entry, dict.fromkeys(entry), False)
            self.assert_told(is_entry, (entry,), False)
            self.assert_told(is_entry, " ".join([str(part) for part in entry]), False)

    def test_other_kinds(self):
        for thing in OTHER_KINDS + TEXTS + TUPLES + NUMBERS + list(PLACES):
            self.assert_told(is_entry, thing, False)

    def test_a_list_that_is_asked_of_is_not_changed(self):
        asked = ["dead", "ann", 1]
        self.assert_told(is_entry, asked, False)
        self.assert_told(is_entry, (asked, "ann", 1), False)
        self.assertEqual(asked, ["dead", "ann", 1])


if __name__ == "__main__":
    unittest.main()
