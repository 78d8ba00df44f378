import random
import unittest

import plain
from drawn import answer, any_entry, book_with, drawn_entries, refused
from heirbook.bars import House, bars, free_pairs, may_join
from heirbook.book import Book
from heirbook.errors import Barred
from heirbook.tongues import Tongue
from samples import NUMBERS, OTHER_KINDS, TUPLES
from words import HOUSE, KIN_ROWS, Reading, drawn_rows, text_of

KIN = Tongue(text_of(KIN_ROWS))
NOBODYS = OTHER_KINDS + NUMBERS + TUPLES + ["", "zed", "Ben", "ben ", "uncle", "toolongname"]
NO_WORDS = OTHER_KINDS + NUMBERS + TUPLES + ["", "aunt", "Uncle", "uncle ", ":uncle", "F", "she", "ben"]

PAIR = [("born", "a", "he", 0, "", ""), ("born", "b", "she", 0, "", "")]


def wanted_bars(reading, words, one, other):
    """6.1."""
    return [(word, begin, end) for word in words for begin, end in ((one, other), (other, one))
            if end in reading.by_word(word, begin)]


def wanted_join(entries, reading, words, one, other):
    """6.2."""
    dead = [entry[1] for entry in entries if entry[0] == "dead"]
    return (one != other and one not in dead and other not in dead and not plain.stands(entries, one, other)
            and not wanted_bars(reading, words, one, other))


class BarsTest(unittest.TestCase):
    def test_words_that_lead_one_way_and_both_ways(self):
        book = book_with(HOUSE)
        self.assertEqual(bars(book, KIN, ["uncle"], "eli", "cal"), [("uncle", "eli", "cal")])
        self.assertEqual(bars(book, KIN, ["uncle"], "cal", "eli"), [("uncle", "eli", "cal")])
        self.assertEqual(bars(book, KIN, ["brother"], "ben", "cal"), [("brother", "ben", "cal"), ("brother", "cal", "ben")])
        self.assertEqual(bars(book, KIN, ["brother"], "cal", "ben"), [("brother", "cal", "ben"), ("brother", "ben", "cal")])
        self.assertEqual(bars(book, KIN, ["uncle", "he"], "deb", "hob"), [])

    def test_in_the_order_of_the_list(self):
        book = book_with(HOUSE)
        told = bars(book, KIN, ["same", "brother", "same", "sister"], "ben", "amy")
        self.assertEqual(told, [("same", "ben", "amy"), ("same", "amy", "ben"), ("brother", "amy", "ben"),
                                ("same", "ben", "amy"), ("same", "amy", "ben"), ("sister", "ben", "amy")])
        self.assertIs(type(told), list)
        self.assertTrue(all(type(bar) is tuple for bar in told))

    def test_one_and_the_same_person(self):
        book = book_with(HOUSE)
        self.assertEqual(bars(book, KIN, ["same", "brother", "he"], "ben", "ben"),
                         [("same", "ben", "ben"), ("same", "ben", "ben"), ("he", "ben", "ben"), ("he", "ben", "ben")])

    def test_no_words(self):
        self.assertEqual(bars(book_with(HOUSE), KIN, [], "ben", "amy"), [])

    def test_drawn_ones(self):
        for number in range(40):
            entries, rows = drawn_entries(number, people=7, more=30), drawn_rows(number)
            book, tongue, reading = book_with(entries), Tongue(text_of(rows)), Reading(entries, rows)
            chance = random.Random(number)
            words = [chance.choice(rows)[0] for turn in range(chance.randrange(1, 5))]
            pairs = []
            for one in book.people():
                for other in book.people():
                    self.assertEqual(bars(book, tongue, words, one, other), wanted_bars(reading, words, one, other))
                    free = wanted_join(entries, reading, words, one, other)
                    self.assertIs(may_join(book, tongue, words, one, other), free, (number, one, other))
                    if free and one < other:
                        pairs.append((one, other))
            self.assertEqual(free_pairs(book, tongue, words), pairs)

    def test_refusals(self):
        for book in (book_with(HOUSE), Book()):
            for ask in (bars, may_join):
                for name in NOBODYS:
                    for one, other in ((name, "ben"), ("ben", name), (name, name)):
                        for words in ([], ["uncle"], ["uncle", "he", "uncle"]):
                            self.assertEqual(refused(lambda: ask(book, KIN, words, one, other)), "NoPerson")
                        self.assertEqual(refused(lambda: ask(book, KIN, ["uncle", "aunt"], one, other)), "NoWord")
                for word in NO_WORDS:
                    for words in ([word], ["uncle", word], [word, "uncle"]):
                        for one, other in (("ben", "amy"), ("zed", "ben"), ("ben", None), ("ben", "ben")):
                            self.assertEqual(refused(lambda: ask(book, KIN, words, one, other)), "NoWord")
            for word in NO_WORDS:
                for words in ([word], ["uncle", word], [word, "uncle"]):
                    self.assertEqual(refused(lambda: free_pairs(book, KIN, words)), "NoWord")

    def test_what_is_handed_in_stays_and_what_is_told_is_the_asker_s_own(self):
        book, words = book_with(HOUSE), ["same", "brother"]
        told = [bars(book, KIN, words, "ben", "amy"), free_pairs(book, KIN, words)]
        may_join(book, KIN, words, "ben", "amy")
        self.assertEqual(words, ["same", "brother"])
        self.assertEqual(book.entries(), sorted(plain.told(entry) for entry in HOUSE))
        kept = [list(one) for one in told]
        for one in told:
            one.clear()
        self.assertEqual([bars(book, KIN, words, "ben", "amy"), free_pairs(book, KIN, words)], kept)


class JoinTest(unittest.TestCase):
    def may(self, more, words=(), one="a", other="b"):
        book, tongue, words = book_with(PAIR + more), Tongue("wed = S\nhim = he\nkid = f | m"), list(words)
        told = may_join(book, tongue, words, one, other)
        self.assertIs(told, may_join(book, tongue, words, other, one))
        if one != other:
            self.assertEqual(free_pairs(book, tongue, words), [("a", "b")] if told else [])
        return told

    def test_two_who_may(self):
        self.assertIs(self.may([]), True)
        self.assertIs(self.may([], ["wed", "kid", "him"]), True)

    def test_one_and_the_same(self):
        self.assertIs(self.may([], one="a", other="a"), False)

    def test_death_of_either(self):
        self.assertIs(self.may([("dead", "a", 10 ** 18)]), False)
        self.assertIs(self.may([("dead", "b", 0)]), False)
        self.assertIs(self.may([("dead", "a", 5), ("dead", "b", 5)]), False)

    def test_unions_that_stand_ended_and_begun_anew(self):
        begun, ended, anew = ("union", "a", "b", 1), ("parted", "b", "a", 2), ("union", "b", "a", 3)
        self.assertIs(self.may([begun]), False)
        self.assertIs(self.may([begun, ended]), True)
        self.assertIs(self.may([begun, ended, anew]), False)
        self.assertIs(self.may([anew, ended]), False)
        self.assertIs(self.may([ended]), True)

    def test_a_bar(self):
        entries = [("born", "dad", "he", 0, "", ""), ("born", "kid", "she", 5, "dad", ""), ("born", "far", "he", 1, "", "")]
        book, tongue = book_with(entries), Tongue("kid = f | m\nup = F")
        self.assertIs(may_join(book, tongue, [], "dad", "kid"), True)
        for words in (["kid"], ["up"], ["kid", "up"]):
            self.assertIs(may_join(book, tongue, words, "dad", "kid"), False)
            self.assertIs(may_join(book, tongue, words, "kid", "dad"), False)
            self.assertIs(may_join(book, tongue, words, "kid", "far"), True)
            self.assertEqual(free_pairs(book, tongue, words), [("dad", "far"), ("far", "kid")])
        self.assertEqual(free_pairs(book, tongue, []), [("dad", "far"), ("dad", "kid"), ("far", "kid")])

    def test_nobody_and_one_alone(self):
        self.assertEqual(free_pairs(Book(), KIN, ["uncle"]), [])
        self.assertEqual(free_pairs(book_with(PAIR[:1]), KIN, []), [])

    def test_full_books(self):
        names = [one + other for one in "abcdef" for other in "abcdefghij"]
        book = book_with([("born", name, "", 0, "", "") for name in names])
        self.assertEqual(free_pairs(book, KIN, ["uncle"]), [(one, other) for one in names for other in names if one < other])


def house_with(entries, tongue=KIN, words=("same", "brother", "uncle")):
    house = House(tongue, list(words))
    for entry in entries:
        house.put(entry)
    return house


class HouseTest(unittest.TestCase):
    def assert_barred(self, house, entry, wanted):
        before = house.book.entries()
        with self.assertRaises(Barred) as caught:
            house.put(entry)
        self.assertIs(type(caught.exception.bars), list)
        self.assertEqual(caught.exception.bars, wanted)
        self.assertEqual(house.book.entries(), before)

    def test_entries_are_let_in(self):
        house = house_with(HOUSE, words=["uncle"])
        self.assertIsInstance(house.book, Book)
        self.assertEqual(house.book.entries(), sorted(plain.told(entry) for entry in HOUSE))
        self.assertIsNone(house.put(("union", "ben", "fay", 60)))

    def test_bars_in_the_order_of_the_names_in_the_entry(self):
        house = house_with(HOUSE[:10])
        self.assert_barred(house, ("union", "ben", "amy", 60),
                           [("same", "ben", "amy"), ("same", "amy", "ben"), ("brother", "amy", "ben")])
        self.assert_barred(house, ("union", "amy", "ben", 60),
                           [("same", "amy", "ben"), ("same", "ben", "amy"), ("brother", "amy", "ben")])
        self.assert_barred(house, ("union", "eli", "cal", 60), [("uncle", "eli", "cal")])
        self.assert_barred(house, ("union", "cal", "eli", 60), [("uncle", "eli", "cal")])

    def test_each_refusal_of_the_book_comes_first(self):
        house = house_with(HOUSE[:10])
        house.put(("parted", "ben", "amy", 61))
        for entry, wanted in ((("union", "ben", "amy", "60"), "NoEntry"), (("union", "ben", "amy"), "NoEntry"),
                              (["union", "ben", "amy", 60], "NoEntry"), (("union", "ben", "zed", 60), "NoPerson"),
                              (("union", "zed", "amy", 60), "NoPerson"), (("union", "amy", "ben", 61), "Twice"),
                              (("union", "ben", "amy", 21), "NoFit"), (("union", "ben", "ben", 60), "NoFit"),
                              (("union", "ben", "amy", 62), "Barred"), (("dead", "zed", 60), "NoPerson"),
                              (("born", "ben", "he", 5, "", ""), "Twice"), (("dead", "ben", 0), "NoFit"), (None, "NoEntry")):
            self.assertEqual(refused(lambda: house.put(entry)), wanted, entry)
        for day in range(389):
            house.put(("union", "old", "ula", day))
        self.assertEqual(len(house.book.entries()), 400)
        self.assertEqual(refused(lambda: house.put(("union", "ben", "amy", 62))), "Full")
        self.assertEqual(refused(lambda: house.put(("union", "ben", "amy", "62"))), "NoEntry")

    def test_things_of_other_kinds(self):
        house = house_with(HOUSE[:10])
        for thing in OTHER_KINDS + NUMBERS + TUPLES + ["union"]:
            self.assertEqual(refused(lambda: house.put(thing)), "NoEntry")

    def test_a_parting_is_let_in(self):
        house = house_with(HOUSE[:10])
        house.put(("parted", "ben", "amy", 60))
        self.assertIn(("parted", "amy", "ben", 60), house.book.entries())

    def test_deaths_and_standing_unions_are_not_looked_at(self):
        house = house_with(HOUSE[:10])
        for entry in (("dead", "old", 70), ("union", "old", "ula", 10), ("union", "ula", "old", 11), ("union", "old", "deb", 80)):
            house.put(entry)
        self.assertTrue(house.book.stands("old", "ula"))
        self.assert_barred(house, ("union", "ben", "cal", 90), [("same", "ben", "cal"), ("same", "cal", "ben"),
                                                                ("brother", "ben", "cal"), ("brother", "cal", "ben")])

    def test_bars_are_looked_at_as_the_book_stands(self):
        tongue = Tongue("inlaw = S S | S T\nwed = S")
        house = house_with([("born", name, "", day, "", "") for day, name in enumerate("abcd")], tongue, ["inlaw"])
        house.put(("union", "a", "b", 10))
        house.put(("union", "b", "c", 10))
        self.assert_barred(house, ("union", "a", "c", 20), [("inlaw", "a", "c"), ("inlaw", "c", "a")])
        house.put(("parted", "b", "a", 20))
        self.assertIsNone(house.put(("union", "a", "c", 20)))
        self.assertTrue(house.book.stands("c", "a"))
        self.assert_barred(house, ("union", "b", "a", 30), [("inlaw", "b", "a"), ("inlaw", "a", "b")])

    def test_a_bar_is_told_of_a_union_that_stands(self):
        house = house_with(PAIR, Tongue("wed = S"), ["wed", "wed"])
        house.put(("union", "a", "b", 1))
        self.assert_barred(house, ("union", "b", "a", 2), [("wed", "b", "a"), ("wed", "a", "b")] * 2)

    def test_words_that_are_none(self):
        for word in NO_WORDS:
            for words in ([word], ["uncle", word], [word, "uncle"]):
                self.assertEqual(refused(lambda: House(KIN, words)), "NoWord")

    def test_no_words(self):
        house = house_with(HOUSE, words=[])
        house.put(("union", "amy", "ben", 60))
        self.assertTrue(house.book.stands("ben", "amy"))

    def test_the_list_of_words_is_kept_as_it_was(self):
        words = ["same"]
        house = House(KIN, words)
        self.assertEqual(words, ["same"])
        for entry in HOUSE[:10]:
            house.put(entry)
        words.append("he")
        words[0] = "uncle"
        self.assert_barred(house, ("union", "ben", "amy", 60), [("same", "ben", "amy"), ("same", "amy", "ben")])
        house.put(("union", "eli", "cal", 60))

    def test_the_list_in_a_refusal_is_the_asker_s_own(self):
        house = house_with(HOUSE[:10])
        caught = []
        for turn in range(2):
            try:
                house.put(("union", "eli", "cal", 60))
            except Barred as refusal:
                caught.append(refusal)
        caught[0].bars.append("more")
        self.assertEqual(caught[1].bars, [("uncle", "eli", "cal")])
        self.assert_barred(house, ("union", "eli", "cal", 60), [("uncle", "eli", "cal")])

    def test_two_houses_keep_two_books(self):
        one, other = house_with(PAIR), house_with([])
        self.assertEqual(other.book.entries(), [])
        other.put(PAIR[0])
        self.assertEqual(len(one.book.entries()), 2)

    def test_drawn_ones(self):
        kinds = []
        for number in range(60):
            chance = random.Random(number)
            rows = KIN_ROWS if number % 2 else drawn_rows(number)
            tongue, words = Tongue(text_of(rows)), [chance.choice(rows)[0] for turn in range(4)]
            entries = drawn_entries(number, people=6, more=0)
            house, names = house_with(entries, tongue, words), [entry[1] for entry in entries] + ["zed"]
            for turn in range(80):
                entry = any_entry(chance, names, 9)
                wanted = plain.refusal(entries, entry)
                if wanted is None and entry[0] == "union":
                    found = wanted_bars(Reading(entries, rows), words, entry[1], entry[2])
                    if found:
                        self.assert_barred(house, entry, found)
                        wanted = "Barred"
                self.assertEqual(answer(lambda: house.put(entry)), wanted, (number, turn, entry))
                kinds.append(wanted)
                if wanted is None:
                    entries.append(entry)
            self.assertEqual(house.book.entries(), sorted(plain.told(entry) for entry in entries))
        self.assertGreater(kinds.count("Barred"), 50)


if __name__ == "__main__":
    unittest.main()
