import itertools
import random
import unittest

import plain
from drawn import any_entry, book_in_order, book_with, drawn_entries, refused
from heirbook.book import Book
from samples import NUMBERS, OTHER_KINDS, TEXTS, TUPLES

FIRST, LAST = -10 ** 18, 10 ** 18
NOBODYS = OTHER_KINDS + NUMBERS + TUPLES + ["", "z", "Ann", "ann ", "annannann", "-", "born"]

ANN, BOB = ("born", "ann", "she", 0, "", ""), ("born", "bob", "he", 5, "", "")
CID, DOT = ("born", "cid", "he", 20, "bob", "ann"), ("born", "dot", "", 20, "bob", "")
FOUR = [ANN, BOB, CID, DOT]
MORE = [
    ("taken", "cid", "ann", 30), ("taken", "dot", "ann", 30), ("union", "ann", "bob", 10), ("parted", "ann", "bob", 12),
    ("dead", "ann", 60), ("given", "ann", "bob", 7, 40),
]


def names_of(count):
    return [one + other for one in "abcdefghij" for other in "abcdefghij"][:count]


def crowd(count):
    """A book of so many people, and no other entries."""
    return book_with([("born", name, "", 0, "", "") for name in names_of(count)])


def full_of_entries(count):
    """A book of so many entries, two of them births."""
    return book_with([("born", "aa", "he", 0, "", ""), ("born", "ab", "she", 0, "", "")]
                     + [("given", "aa", "ab", 1, day) for day in range(count - 2)])


class BookCase(unittest.TestCase):
    def assert_refused(self, book, entry, wanted):
        before = plain.all_of(book, [None, 10, 20])
        self.assertEqual(refused(lambda: book.put(entry)), wanted, entry)
        self.assertEqual(plain.all_of(book, [None, 10, 20]), before)

    def assert_let_in(self, book, entry):
        before = book.entries()
        self.assertIsNone(book.put(entry))
        self.assertEqual(book.entries(), sorted(before + [plain.told(entry)]))

    def assert_tells(self, book, entries):
        self.assertEqual(plain.all_of(book, plain.days_around(entries)), plain.all_told(entries))


class LetInTest(BookCase):
    def test_a_book_begins_without_entries(self):
        self.assertEqual(Book().entries(), [])
        self.assertEqual(Book().people(), [])

    def test_each_kind(self):
        book = Book()
        for entry in FOUR + MORE:
            self.assert_let_in(book, entry)
        self.assert_tells(book, FOUR + MORE)

    def test_every_sort(self):
        for sort in ("he", "she", ""):
            self.assert_let_in(Book(), ("born", "ann", sort, 0, "", ""))

    def test_parents_one_both_none(self):
        for father in ("bob", ""):
            for mother in ("ann", ""):
                self.assert_let_in(book_with([ANN, BOB]), ("born", "eve", "", 6, father, mother))

    def test_the_ends_of_days_and_amounts(self):
        book = Book()
        for entry in (("born", "ann", "she", FIRST, "", ""), ("born", "bob", "he", LAST - 1, "", "ann"),
                      ("born", "cid", "", LAST, "bob", "ann"), ("taken", "cid", "bob", LAST),
                      ("union", "ann", "bob", LAST), ("dead", "ann", FIRST), ("given", "ann", "bob", LAST, LAST),
                      ("given", "bob", "ann", 1, LAST)):
            self.assert_let_in(book, entry)

    def test_on_the_very_day_of_the_birth(self):
        for entry in (("union", "ann", "bob", 5), ("parted", "bob", "ann", 5), ("dead", "ann", 0), ("dead", "bob", 5),
                      ("given", "ann", "bob", 1, 5), ("given", "bob", "ann", 1, 5), ("taken", "cid", "ann", 20),
                      ("taken", "dot", "bob", 20)):
            self.assert_let_in(book_with(FOUR), entry)

    def test_a_father_or_taker_born_one_day_ahead(self):
        self.assert_let_in(book_with([ANN, BOB]), ("born", "eve", "", 6, "bob", ""))
        self.assert_let_in(book_with([ANN, BOB]), ("born", "eve", "", 1, "", "ann"))
        book = book_with([ANN, ("born", "eve", "", 1, "", "")])
        self.assert_let_in(book, ("taken", "eve", "ann", 1))

    def test_a_parent_may_take_in_the_child_too(self):
        book = book_with(FOUR)
        self.assert_let_in(book, ("taken", "cid", "bob", 25))
        self.assert_let_in(book, ("union", "cid", "bob", 25))

    def test_several_of_a_kind(self):
        book = book_with(FOUR)
        for entry in (("taken", "cid", "ann", 30), ("taken", "cid", "bob", 30), ("taken", "dot", "ann", 30),
                      ("union", "ann", "bob", 10), ("union", "ann", "bob", 11), ("parted", "ann", "bob", 9),
                      ("union", "ann", "cid", 30), ("union", "bob", "cid", 30), ("dead", "ann", 30), ("dead", "bob", 30),
                      ("given", "ann", "bob", 1, 10), ("given", "bob", "ann", 1, 10), ("given", "ann", "cid", 1, 30),
                      ("given", "ann", "bob", 1, 11)):
            self.assert_let_in(book, entry)

    def test_what_the_dead_do_and_partings_ahead(self):
        book = book_with(FOUR + [("dead", "ann", 6), ("dead", "bob", 6)])
        for entry in (("parted", "ann", "bob", 30), ("union", "ann", "bob", 29), ("given", "ann", "bob", 1, 50),
                      ("taken", "cid", "ann", 80)):
            self.assert_let_in(book, entry)
        self.assertFalse(book.stands("ann", "bob"))


class NoEntryTest(BookCase):
    def test_other_kinds(self):
        book = book_with(FOUR)
        for thing in OTHER_KINDS + TEXTS + TUPLES + NUMBERS:
            self.assertEqual(refused(lambda: book.put(thing)), "NoEntry")
        self.assertEqual(book.entries(), sorted(FOUR))

    def test_almost_entries(self):
        book = book_with(FOUR)
        for entry in MORE + [("born", "eve", "she", 30, "bob", "ann")]:
            for wrong in (list(entry), entry[:-1], entry + (1,), entry[1:], (entry,), (entry[0].upper(),) + entry[1:],
                          (entry[0] + " ",) + entry[1:], (entry[0],) + ("Ann",) + entry[2:], (entry[0], "", *entry[2:])):
                self.assert_refused(book, wrong, "NoEntry")
        for wrong in (("born", "eve", "it", 30, "bob", "ann"), ("born", "eve", "he", True, "", ""),
                      ("born", "eve", "he", 1.0, "", ""), ("born", "eve", "he", LAST + 1, "", ""),
                      ("born", "eve", "he", FIRST - 1, "", ""), ("born", "eve", "he", 30, None, ""),
                      ("born", "eve", "he", 30, "", "Ann"), ("given", "ann", "bob", 0, 30), ("given", "ann", "bob", -1, 30),
                      ("given", "ann", "bob", LAST + 1, 30), ("given", "ann", "bob", True, 30), ("dead", "ann", "30"),
                      ("given", "ann", "", 1, 30), ("taken", "cid", "", 30), ("union", "", "bob", 30)):
            self.assert_refused(book, wrong, "NoEntry")


    def test_ahead_of_no_person_twice_and_no_fit(self):
        book = book_with(FOUR + MORE)
        for thing in (["dead", "zed", 30], ("dead", "zed", 30.0), ("born", "eve", "it", 30, "zed", ""), list(ANN), list(MORE[2]),
                      ("born", "ann", "she", 0, "", None), ("dead", "ann", True), ("given", "ann", "bob", 0, 40),
                      ["union", "ann", "ann", 30], ("taken", "ann", "ann", "30"), ("dead", "ann", FIRST - 1),
                      ("born", "eve", "", FIRST - 1, "bob", "ann"), ("union", "zed", "zed", LAST + 1)):
            self.assert_refused(book, thing, "NoEntry")


class FullTest(BookCase):
    def test_60_people(self):
        book = crowd(59)
        self.assert_let_in(book, ("born", "zoe", "she", 0, "", ""))
        self.assertEqual(len(book.people()), 60)
        for entry in (("born", "zed", "he", 0, "", ""), ("born", "zoe", "she", 0, "", ""), ("born", "zed", "", 5, "zoe", ""),
                      ("born", "zed", "", 5, "nobody", "")):
            self.assert_refused(book, entry, "Full")
        for entry in (("taken", "aa", "ab", 3), ("union", "aa", "nobody", 3)):
            self.assertNotEqual(refused(lambda: book.put(entry)), "Full")
        for entry in (("union", "aa", "ab", 3), ("parted", "aa", "ab", 4), ("dead", "aa", 3), ("given", "aa", "ab", 1, 3)):
            self.assert_let_in(book, entry)

    def test_60_people_and_a_taking_in(self):
        book = book_with([("born", name, "", day, "", "") for day, name in enumerate(names_of(60))])
        self.assert_let_in(book, ("taken", "ab", "aa", 90))

    def test_400_entries(self):
        book = full_of_entries(399)
        self.assert_let_in(book, ("dead", "aa", 1))
        self.assertEqual(len(book.entries()), 400)
        for entry in (("dead", "ab", 1), ("dead", "aa", 1), ("dead", "zed", 1), ("dead", "ab", -1), ("union", "aa", "ab", 3),
                      ("union", "aa", "aa", 3), ("parted", "aa", "ab", 3), ("given", "aa", "ab", 1, 0),
                      ("given", "ab", "aa", 1, 0), ("taken", "aa", "ab", 9), ("born", "ac", "", 9, "", ""),
                      ("born", "aa", "", 9, "", ""), ("born", "ac", "", 9, "zed", ""), ("born", "ac", "", 0, "aa", "")):
            self.assert_refused(book, entry, "Full")

    def test_a_birth_as_the_last_entry(self):
        book = full_of_entries(399)
        self.assert_let_in(book, ("born", "ac", "", 9, "aa", "ab"))
        self.assert_refused(book, ("born", "ad", "", 9, "aa", "ab"), "Full")

    def test_what_was_refused_takes_no_room(self):
        book = crowd(59)
        for turn in range(500):
            self.assertEqual(refused(lambda: book.put(("born", "aa", "", 0, "", ""))), "Twice")
        self.assert_let_in(book, ("born", "zoe", "she", 0, "", ""))
        book = full_of_entries(399)
        for turn in range(500):
            self.assertEqual(refused(lambda: book.put(("given", "aa", "ab", 1, 0))), "Twice")
        self.assert_let_in(book, ("dead", "aa", 1))

    def test_no_entry_comes_ahead_of_full(self):
        book = full_of_entries(400)
        for thing in (("dead", "aa"), ("born", "ac", "it", 9, "", ""), None, (), "dead", ["dead", "ab", 1]):
            self.assert_refused(book, thing, "NoEntry")
        self.assert_refused(crowd(60), ("born", "zed", "", 0, "", "", ""), "NoEntry")


class NoPersonTest(BookCase):
    def test_each_place(self):
        for entry in (("born", "eve", "", 30, "zed", ""), ("born", "eve", "", 30, "", "zed"),
                      ("born", "eve", "", 30, "zed", "ann"), ("born", "eve", "", 30, "bob", "zed"),
                      ("taken", "zed", "ann", 30), ("taken", "cid", "zed", 30), ("union", "zed", "ann", 30),
                      ("union", "ann", "zed", 30), ("parted", "zed", "ann", 30), ("parted", "ann", "zed", 30),
                      ("dead", "zed", 30), ("given", "zed", "ann", 1, 30), ("given", "ann", "zed", 1, 30)):
            self.assert_refused(book_with(FOUR), entry, "NoPerson")
            self.assert_refused(Book(), entry, "NoPerson")

    def test_the_born_one_s_own_name(self):
        for entry in (("born", "eve", "he", 30, "eve", ""), ("born", "eve", "she", 30, "", "eve"),
                      ("born", "eve", "he", 30, "eve", "ann"), ("born", "eve", "she", 30, "bob", "eve")):
            self.assert_refused(book_with(FOUR), entry, "NoPerson")
        self.assert_refused(book_with(FOUR), ("born", "bob", "he", 30, "bob", ""), "Twice")
        self.assert_refused(book_with(FOUR), ("born", "ann", "she", 30, "", "ann"), "Twice")

    def test_ahead_of_twice_and_no_fit(self):
        for entry in (("born", "cid", "", 30, "zed", ""), ("born", "cid", "", 30, "bob", "zed"),
                      ("born", "eve", "", 30, "ann", "zed"), ("born", "eve", "", 30, "zed", "bob"),
                      ("born", "eve", "", 0, "bob", "zed"), ("union", "zed", "zed", 30), ("parted", "zed", "zed", 30),
                      ("taken", "zed", "zed", 30), ("given", "zed", "zed", 1, 30), ("union", "ann", "zed", -1),
                      ("parted", "zed", "bob", -1), ("taken", "zed", "bob", -1), ("given", "zed", "bob", 1, -1)):
            self.assert_refused(book_with(FOUR), entry, "NoPerson")


class TwiceTest(BookCase):
    def test_each_kind(self):
        book = book_with(FOUR + MORE)
        for entry in FOUR + MORE:
            self.assert_refused(book, entry, "Twice")

    def test_a_second_birth_of_another_form(self):
        for entry in (("born", "ann", "he", 3, "", ""), ("born", "ann", "she", 50, "bob", ""), ("born", "cid", "he", 20, "", "")):
            self.assert_refused(book_with(FOUR), entry, "Twice")

    def test_a_second_death_and_taking_in_of_another_day(self):
        book = book_with(FOUR + MORE)
        for entry in (("dead", "ann", 61), ("dead", "ann", 0), ("taken", "cid", "ann", 31), ("taken", "cid", "ann", 20)):
            self.assert_refused(book, entry, "Twice")

    def test_unions_and_partings_of_one_day(self):
        for old in ("union", "parted"):
            for turn in (("ann", "bob"), ("bob", "ann")):
                book = book_with(FOUR + [(old,) + turn + (10,)])
                for new in ("union", "parted"):
                    for one, other in (("ann", "bob"), ("bob", "ann")):
                        self.assert_refused(book, (new, one, other, 10), "Twice")
                        self.assert_let_in(book_with(book_parts(book)), (new, one, other, 9))
                        self.assert_let_in(book_with(book_parts(book)), (new, one, other, 11))
                self.assert_let_in(book, ("union", "ann", "dot", 20))

    def test_gifts_of_one_day(self):
        book = book_with(FOUR + [("given", "ann", "bob", 7, 40)])
        self.assert_refused(book, ("given", "ann", "bob", 7, 40), "Twice")
        self.assert_refused(book, ("given", "ann", "bob", 8, 40), "Twice")
        self.assert_let_in(book, ("given", "ann", "bob", 7, 41))
        self.assert_let_in(book, ("given", "bob", "ann", 7, 40))
        self.assert_let_in(book, ("given", "ann", "cid", 7, 40))

    def test_ahead_of_no_fit(self):
        book = book_with(FOUR + MORE)
        for entry in (("born", "cid", "", 1, "bob", ""), ("born", "cid", "", 30, "ann", "bob"), ("born", "cid", "", 0, "", "ann"),
                      ("born", "bob", "he", 5, "bob", "bob"), ("dead", "ann", -1), ("taken", "cid", "ann", 19),
                      ("taken", "dot", "ann", -1)):
            self.assert_refused(book, entry, "Twice")


def book_parts(book):
    """A book's entries in an order in which they can be put."""
    return sorted(book.entries(), key=lambda entry: (entry[0] != "born", plain.day_of(entry)))


class NoFitTest(BookCase):
    def test_sorts_of_parents(self):
        book = book_with(FOUR)
        for father, mother in (("ann", ""), ("dot", ""), ("", "bob"), ("", "dot"), ("ann", "bob"), ("ann", "ann"),
                               ("bob", "bob"), ("bob", "dot"), ("dot", "ann")):
            self.assert_refused(book, ("born", "eve", "", 30, father, mother), "NoFit")

    def test_days_of_parents(self):
        book = book_with(FOUR)
        for day, father, mother in ((5, "bob", ""), (4, "bob", ""), (0, "", "ann"), (-1, "", "ann"), (5, "bob", "ann"),
                                    (0, "bob", "ann"), (FIRST, "bob", "ann")):
            self.assert_refused(book, ("born", "eve", "", day, father, mother), "NoFit")

    def test_a_mother_born_too_late_beside_a_father(self):
        book = book_with([("born", "bob", "he", 0, "", ""), ("born", "ann", "she", 9, "", "")])
        self.assert_refused(book, ("born", "eve", "", 9, "bob", "ann"), "NoFit")
        self.assert_let_in(book, ("born", "eve", "", 10, "bob", "ann"))

    def test_one_and_the_same(self):
        for name in ("ann", "bob", "dot"):
            for entry in (("taken", name, name, 30), ("union", name, name, 30), ("parted", name, name, 30),
                          ("given", name, name, 1, 30)):
                self.assert_refused(book_with(FOUR), entry, "NoFit")

    def test_takers(self):
        for child, taker in (("ann", "bob"), ("cid", "dot"), ("dot", "cid"), ("bob", "cid")):
            self.assert_refused(book_with(FOUR), ("taken", child, taker, 90), "NoFit")

    def test_one_day_ahead_of_a_birth(self):
        for entry in (("union", "ann", "bob", 4), ("union", "bob", "ann", 4), ("parted", "ann", "bob", 4),
                      ("parted", "bob", "ann", 4), ("dead", "ann", -1), ("dead", "bob", 4), ("given", "ann", "bob", 1, 4),
                      ("given", "bob", "ann", 1, 4), ("taken", "cid", "ann", 19), ("taken", "dot", "bob", 19),
                      ("taken", "cid", "ann", -1), ("union", "ann", "cid", FIRST)):
            self.assert_refused(book_with(FOUR), entry, "NoFit")


class LaterTest(BookCase):
    def test_what_was_refused_may_be_put_later(self):
        book = Book()
        for entry in FOUR + MORE:
            if entry != ANN and entry != BOB:
                self.assert_refused(book, entry, "NoPerson")
        for entry in FOUR + MORE:
            self.assert_let_in(book, entry)
        self.assert_tells(book, FOUR + MORE)

    def test_a_refused_birth_makes_nobody(self):
        book = book_with(FOUR)
        self.assert_refused(book, ("born", "eve", "", 5, "bob", ""), "NoFit")
        self.assertEqual(refused(lambda: book.put(("dead", "eve", 90))), "NoPerson")
        self.assertEqual(book.step("f", "bob"), ["cid", "dot"])
        self.assert_let_in(book, ("born", "eve", "", 6, "bob", ""))
        self.assertEqual(book.step("f", "bob"), ["cid", "dot", "eve"])

    def test_refused_ties_gifts_and_takings(self):
        book = book_with(FOUR + MORE)
        for entry in (("union", "ann", "bob", 12), ("given", "ann", "bob", 1, 40), ("taken", "dot", "ann", 90),
                      ("parted", "bob", "ann", 10), ("dead", "ann", 99)):
            self.assert_refused(book, entry, "Twice")
        self.assertFalse(book.stands("ann", "bob"))
        self.assertEqual(book.gave("ann", "bob"), 7)
        self.assertEqual(book.dead_on("ann"), 60)
        self.assertEqual(book.until(30).step("T", "dot"), ["ann"])


class DrawnTest(BookCase):
    def test_any_entries_in_a_small_book(self):
        seen = set()
        for number in range(60):
            chance = random.Random(number)
            book, entries = Book(), []
            names = ["a", "b", "c", "d", "e"][:chance.randrange(2, 6)]
            for turn in range(150):
                entry = any_entry(chance, names, 6)
                wanted = plain.refusal(entries, entry)
                self.assertEqual(refused(lambda: book.put(entry)), wanted, (number, entries, entry))
                if wanted is None:
                    entries.append(entry)
                seen.add((entry[0], wanted))
            self.assert_tells(book, entries)
        for kind in ("born", "taken", "union", "parted", "dead", "given"):
            for wanted in ("NoPerson", "Twice", "NoFit", None):
                self.assertIn((kind, wanted), seen)

    def test_drawn_books_tell_what_their_entries_say(self):
        for number in range(60):
            entries = drawn_entries(number, people=8, more=60)
            self.assert_tells(book_with(entries), entries)

    def test_one_book_in_many_orders(self):
        for number in range(25):
            entries = drawn_entries(number, people=7, more=30)
            wanted = plain.all_told(entries)
            chance = random.Random(number)
            for turn in range(12):
                chance.shuffle(entries)
                book = book_in_order([turned_about(entry) if chance.random() < 0.5 else entry for entry in entries])
                self.assertEqual(plain.all_of(book, plain.days_around(entries)), wanted)


def turned_about(entry):
    if entry[0] in ("union", "parted"):
        return (entry[0], entry[2], entry[1], entry[3])
    return entry


class ToldTest(BookCase):
    def test_entries_are_sorted(self):
        book = book_with([BOB, ANN, ("born", "zed", "", -5, "", ""), ("union", "zed", "ann", 7), ("parted", "bob", "ann", 9),
                          ("dead", "zed", 1), ("given", "zed", "ann", 3, 4), ("given", "zed", "ann", 1, 5),
                          ("taken", "bob", "zed", 8), ("union", "ann", "bob", 20), ("union", "bob", "ann", 10)])
        self.assertEqual(book.entries(), [
            ANN, BOB, ("born", "zed", "", -5, "", ""), ("dead", "zed", 1), ("given", "zed", "ann", 1, 5),
            ("given", "zed", "ann", 3, 4), ("parted", "ann", "bob", 9), ("taken", "bob", "zed", 8),
            ("union", "ann", "bob", 10), ("union", "ann", "bob", 20), ("union", "ann", "zed", 7)])
        self.assertTrue(all(type(entry) is tuple for entry in book.entries()))

    def test_people_are_sorted(self):
        book = book_with([("born", name, "", 0, "", "") for name in ("b", "ab", "a", "zz", "aa", "z")])
        self.assertEqual(book.people(), ["a", "aa", "ab", "b", "z", "zz"])

    def test_sorts_births_and_deaths(self):
        book = book_with(FOUR + MORE + [("dead", "bob", 5)])
        self.assertEqual([book.sort_of(name) for name in ("ann", "bob", "cid", "dot")], ["she", "he", "he", ""])
        self.assertEqual([book.born_on(name) for name in ("ann", "bob", "cid", "dot")], [0, 5, 20, 20])
        self.assertEqual([book.dead_on(name) for name in ("ann", "bob", "cid", "dot")], [60, 5, None, None])

    def test_a_death_on_day_nought_is_told(self):
        book = book_with([ANN, ("dead", "ann", 0)])
        self.assertEqual(book.dead_on("ann"), 0)
        self.assertIsNotNone(book.dead_on("ann"))

    def test_nobodys_names(self):
        for book in (Book(), book_with(FOUR + MORE)):
            for name in NOBODYS:
                for asked in (book.sort_of, book.born_on, book.dead_on):
                    self.assertEqual(refused(lambda: asked(name)), "NoPerson")
        book = book_with(FOUR + MORE)
        for name in NOBODYS:
            for known in ("ann", "cid"):
                for asked in (book.stands, book.gave, lambda one, other: book.stands(one, other, 10),
                              lambda one, other: book.stands(one, other, day=-99)):
                    self.assertEqual(refused(lambda: asked(name, known)), "NoPerson")
                    self.assertEqual(refused(lambda: asked(known, name)), "NoPerson")
                    self.assertEqual(refused(lambda: asked(name, name)), "NoPerson")

    def test_lists_are_the_asker_s_own(self):
        book = book_with(FOUR + MORE + [("union", "ann", "cid", 30), ("union", "ann", "bob", 13)])
        before = plain.all_of(book, [None])
        for told in [book.entries(), book.people()] + [book.step(letter, name) for letter in "FMTfmtS" for name in book.people()]:
            self.assertIs(type(told), list)
            told.append("zed")
            told.reverse()
            told[:1] = []
        self.assertEqual(plain.all_of(book, [None]), before)

    def test_lists_that_were_told_stay(self):
        book = book_with(FOUR)
        told = [book.entries(), book.people(), book.step("f", "bob"), book.step("S", "ann"), book.step("t", "ann")]
        kept = [list(one) for one in told]
        for entry in MORE[:3] + [("born", "eve", "", 30, "bob", "")]:
            book.put(entry)
        self.assertEqual(told, kept)


class StandsTest(BookCase):
    TIES = [("union", 10), ("parted", 12), ("union", 15), ("union", 17), ("parted", 20), ("parted", 22), ("union", 30)]
    WANTED = [(9, False), (10, True), (11, True), (12, False), (13, False), (14, False), (15, True), (16, True), (17, True),
              (19, True), (20, False), (21, False), (22, False), (29, False), (30, True), (31, True), (LAST, True),
              (FIRST, False), (None, True)]

    def test_put_in_any_order_asked_either_way(self):
        chance = random.Random(1)
        for turn in range(40):
            ties = chance.sample(self.TIES, len(self.TIES))
            names = [chance.sample(["ann", "bob"], 2) for tie in ties]
            book = book_with(FOUR + [(kind, one, other, day) for (kind, day), (one, other) in zip(ties, names)])
            for day, wanted in self.WANTED:
                self.assertIs(book.stands("ann", "bob", day), wanted, day)
                self.assertIs(book.stands("bob", "ann", day), wanted, day)
            self.assertIs(book.stands("ann", "bob"), True)
            self.assertIs(book.stands("bob", "ann", day=20), False)

    def test_all_orders_of_three(self):
        for ties in itertools.permutations([("union", 10), ("union", 12), ("parted", 14)]):
            book = book_with(FOUR + [(kind, "ann", "bob", day) for kind, day in ties])
            self.assertEqual([book.stands("ann", "bob", day) for day in (9, 10, 13, 14, None)],
                             [False, True, True, False, False])

    def test_a_parting_without_a_union(self):
        book = book_with(FOUR + [("parted", "ann", "bob", 12)])
        for day in (None, 11, 12, 13):
            self.assertIs(book.stands("ann", "bob", day), False)
        book.put(("union", "ann", "bob", 11))
        self.assertEqual([book.stands("ann", "bob", day) for day in (10, 11, 12, None)], [False, True, False, False])

    def test_others_and_oneself(self):
        book = book_with(FOUR + [("union", "ann", "bob", 12)])
        for one, other in (("ann", "ann"), ("bob", "bob"), ("ann", "cid"), ("dot", "bob"), ("cid", "dot")):
            self.assertIs(book.stands(one, other), False)
            self.assertIs(book.stands(one, other, 12), False)

    def test_a_death_ends_no_union(self):
        book = book_with(FOUR + [("union", "ann", "bob", 12), ("dead", "bob", 13)])
        self.assertIs(book.stands("ann", "bob"), True)
        self.assertIs(book.stands("ann", "bob", 14), True)
        self.assertEqual(book.step("S", "ann"), ["bob"])

    def test_day_nought(self):
        book = book_with([ANN, ("born", "eve", "", 0, "", ""), ("union", "ann", "eve", 1)])
        self.assertIs(book.stands("ann", "eve", 0), False)
        self.assertIs(book.stands("ann", "eve"), True)


class GaveTest(BookCase):
    def test_sums(self):
        book = book_with(FOUR + [("given", "ann", "bob", 3, 30), ("given", "ann", "bob", 4, 10), ("given", "bob", "ann", 9, 10),
                                 ("given", "ann", "cid", LAST, 30), ("given", "ann", "cid", LAST, 31)])
        self.assertEqual(book.gave("ann", "bob"), 7)
        self.assertEqual(book.gave("bob", "ann"), 9)
        self.assertEqual(book.gave("ann", "cid"), 2 * LAST)
        for giver, taker in (("cid", "ann"), ("bob", "cid"), ("ann", "ann"), ("dot", "cid")):
            self.assertEqual(book.gave(giver, taker), 0)
            self.assertIs(type(book.gave(giver, taker)), int)


class StepTest(BookCase):
    HOUSE = [
        ("born", "zoe", "she", 0, "", ""), ("born", "tom", "he", 1, "", ""), ("born", "pia", "she", 9, "tom", "zoe"),
        ("born", "abe", "he", 8, "tom", "zoe"), ("born", "kay", "", 7, "tom", ""), ("born", "lea", "", 9, "", "zoe"),
        ("taken", "lea", "tom", 20), ("taken", "pia", "tom", 20), ("taken", "lea", "kay", 20), ("taken", "lea", "abe", 21),
        ("union", "zoe", "tom", 5), ("union", "tom", "kay", 20), ("union", "abe", "tom", 20), ("parted", "tom", "abe", 21),
        ("union", "lea", "tom", 20), ("parted", "tom", "lea", 21), ("union", "tom", "lea", 22), ("union", "zoe", "kay", 9),
    ]

    def test_each_letter(self):
        book = book_with(self.HOUSE)
        for letter, name, wanted in (
                ("F", "pia", ["tom"]), ("F", "lea", []), ("F", "tom", []), ("M", "pia", ["zoe"]), ("M", "kay", []),
                ("T", "lea", ["abe", "kay", "tom"]), ("T", "pia", ["tom"]), ("T", "zoe", []),
                ("f", "tom", ["abe", "kay", "pia"]), ("f", "zoe", []), ("f", "abe", []), ("m", "zoe", ["abe", "lea", "pia"]),
                ("m", "tom", []), ("t", "tom", ["lea", "pia"]), ("t", "kay", ["lea"]), ("t", "zoe", []),
                ("S", "tom", ["kay", "lea", "zoe"]), ("S", "abe", []), ("S", "lea", ["tom"]), ("S", "zoe", ["kay", "tom"]),
                ("S", "kay", ["tom", "zoe"]), ("S", "pia", [])):
            self.assertEqual(book.step(letter, name), wanted, (letter, name))

    def test_unions_ended_and_begun_anew_in_any_order(self):
        ties = [("union", 10), ("parted", 12), ("union", 14), ("parted", 16)]
        for count in (1, 2, 3, 4):
            for some in itertools.permutations(ties[:count]):
                book = book_with(FOUR + [("union", "ann", "cid", 40)] + [(kind, "bob", "ann", day) for kind, day in some])
                wanted = ["bob", "cid"] if count in (1, 3) else ["cid"]
                self.assertEqual(book.step("S", "ann"), wanted)
                self.assertEqual(book.step("S", "bob"), ["ann"] if count in (1, 3) else [])

    def test_what_is_no_letter(self):
        book = book_with(self.HOUSE)
        wrong = OTHER_KINDS + NUMBERS + TUPLES + ["", "he", "she", "s", "A", "FF", "F ", " F", "Fm", "FMTfmtS", "x", "\n", ("F",), ["F"]]
        for letter in wrong:
            for name in ["tom", "nobody", "", None, 5, [], ("tom",)]:
                self.assertEqual(refused(lambda: book.step(letter, name)), "NoWay")
                self.assertEqual(refused(lambda: Book().step(letter, name)), "NoWay")

    def test_nobodys_names(self):
        book = book_with(self.HOUSE)
        for letter in plain.LETTERS:
            for name in NOBODYS:
                self.assertEqual(refused(lambda: book.step(letter, name)), "NoPerson")
                self.assertEqual(refused(lambda: Book().step(letter, name)), "NoPerson")


class UntilTest(BookCase):
    def test_before_on_and_behind_each_day(self):
        for number in range(12):
            entries = drawn_entries(number, people=7, more=30)
            book = book_with(entries)
            days = sorted({plain.day_of(entry) + more for entry in entries for more in (-1, 0, 1)})
            for day in days + [FIRST, LAST]:
                told = book.until(day)
                self.assertIs(type(told), Book)
                self.assert_tells(told, [entry for entry in entries if plain.day_of(entry) <= day])
            self.assert_tells(book, entries)

    def test_the_day_of_each_kind(self):
        book = book_with(FOUR + MORE)
        for entry in FOUR + MORE:
            day = plain.day_of(entry)
            self.assertNotIn(entry, book.until(day - 1).entries())
            self.assertIn(entry, book.until(day).entries())
            self.assertIn(entry, book.until(day + 1).entries())

    def test_what_is_put_into_either_changes_nothing_in_the_other(self):
        for day in (25, LAST):
            book = book_with(FOUR + MORE)
            later = book.until(day)
            mine, theirs = plain.all_of(book, [None]), plain.all_of(later, [None])
            for entry in (("born", "eve", "", 22, "bob", "ann"), ("union", "bob", "ann", 13), ("taken", "cid", "bob", 22),
                          ("union", "cid", "dot", 22), ("dead", "bob", 22), ("given", "ann", "bob", 1, 22)):
                later.put(entry)
            self.assertEqual(plain.all_of(book, [None]), mine)
            other = book.until(day)
            self.assertEqual(plain.all_of(other, [None]), theirs)
            changed = plain.all_of(later, [None])
            for entry in (("born", "fay", "", 23, "bob", "ann"), ("union", "bob", "ann", 14), ("taken", "dot", "bob", 23),
                          ("union", "cid", "dot", 23), ("dead", "cid", 23), ("given", "ann", "bob", 2, 23)):
                book.put(entry)
            self.assertEqual(plain.all_of(later, [None]), changed)
            self.assertEqual(plain.all_of(other, [None]), theirs)

    def test_a_book_until_a_day_lets_in_and_refuses_anew(self):
        book = full_of_entries(400)
        early = book.until(100)
        self.assertEqual(len(early.entries()), 103)
        self.assert_let_in(early, ("dead", "aa", 101))
        self.assert_refused(book, ("dead", "aa", 101), "Full")
        self.assert_refused(early, ("given", "aa", "ab", 1, 100), "Twice")
        self.assert_let_in(early, ("given", "aa", "ab", 1, 101))
        self.assertEqual(len(book.until(LAST).entries()), 400)
        self.assert_refused(book.until(LAST), ("dead", "aa", 101), "Full")

    def test_until_a_day_ahead_of_all(self):
        self.assertEqual(book_with(FOUR + MORE).until(-1).entries(), [])
        self.assertEqual(Book().until(0).people(), [])

    def test_until_and_until(self):
        book = book_with(FOUR + MORE)
        self.assertEqual(book.until(40).until(12).entries(), book.until(12).entries())
        self.assertEqual(book.until(12).until(40).entries(), book.until(12).entries())


if __name__ == "__main__":
    unittest.main()
