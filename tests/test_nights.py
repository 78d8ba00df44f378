import copy
import itertools
import random
import unittest
from fractions import Fraction

import plain
import shared_out
from drawn import answer, book_with, refused
from estates import TONGUE, code_of
from heirbook.book import Book
from heirbook.codes import Code
from heirbook.errors import HeirError, Unsure
from heirbook.nights import settled
from samples import NUMBERS, OTHER_KINDS, TEXTS, TUPLES
from shared_out import as_fractions, as_tuple, as_tuples, code_text, dead_of, drawn_code, drawn_house

BIRTHS = [
    ("born", "dad", "he", 0, "", ""), ("born", "mum", "she", 0, "", ""), ("born", "ann", "she", 20, "dad", "mum"),
    ("born", "bob", "he", 22, "dad", "mum"), ("born", "cid", "he", 24, "dad", ""), ("born", "eve", "she", 45, "bob", ""),
    ("born", "fay", "she", 46, "bob", ""), ("born", "gus", "he", 66, "", "ann"), ("union", "dad", "mum", 10),
]
NO_FRACTIONS = OTHER_KINDS + NUMBERS + TEXTS + [
    (), ("ann",), (None, None), (2, 4), (0, 2), (0, 0), (1, 0), (-1, 1), (-1, 2), (1, -2), (0, -1), (1, 1, 1), (True, 1), (1, True), (1.0, 1), (1, 1.0),
    ("1", 1), [1, 2], (Fraction(1), 1), (False, 1), (10, 5), (None, 1), (1,), (6, 4),
]


def drawn_holdings(chance, names):
    some = chance.sample(names, chance.randrange(1, len(names) + 1))
    return {one: Fraction(chance.randrange(20), chance.choice([1, 1, 2, 3])) for one in some}


def drawn_night(number, most=4):
    """A drawn house in which some die in one night, some alone."""
    chance = random.Random(number)
    entries = [entry for entry in drawn_house(number, people=9, deaths=0) if entry[0] != "dead"]
    names = sorted(plain.births(entries))
    days = [20, 20, 20, 21, 22, 22]
    for name in chance.sample(names, chance.randrange(2, 7)):
        day = chance.choice([one for one in days if [entry[2] for entry in entries if entry[0] == "dead"].count(one) < most])
        entries.append(("dead", name, day))
    return entries


class SettledTest(unittest.TestCase):
    def assert_settled(self, wanted, code, deaths, holdings, more=()):
        book, kept = book_with(BIRTHS + list(more) + [("dead", name, day) for name, day in deaths]), dict(holdings)
        told = settled(book, code, holdings)
        self.assertIs(type(told), dict)
        self.assertEqual(list(told.items()), list(wanted.items()))
        self.assertEqual(list(holdings.items()), list(kept.items()))
        self.assertEqual(sum(as_fractions(told).values()), sum(as_fractions(holdings).values()))

    def test_nobody_dead(self):
        self.assert_settled({}, code_of(), [], {})
        self.assert_settled({"ann": (1, 2), "mum": (7, 1)}, code_of(), [], {"mum": (7, 1), "cid": (0, 1), "ann": (1, 2)})

    def test_one_dead(self):
        self.assert_settled({"ann": (4, 1), "bob": (3, 1), "cid": (3, 1)}, code_of(), [("dad", 80)], {"dad": (9, 1), "ann": (1, 1)})
        self.assert_settled({"ann": (1, 1)}, code_of(), [("dad", 80)], {"ann": (1, 1)})
        self.assert_settled({}, code_of(), [("dad", 80)], {"dad": (0, 1)})

    def test_an_heir_who_dies_later(self):
        code = code_of(stand="child")
        self.assert_settled({"ann": (3, 1), "cid": (3, 1), "eve": (3, 2), "fay": (3, 2)}, code, [("dad", 80), ("bob", 81)], {"dad": (9, 1)})
        self.assert_settled({"ann": (3, 1), "cid": (3, 1), "eve": (3, 2), "fay": (3, 2)}, code, [("dad", 81), ("bob", 80)], {"dad": (9, 1)})
        self.assert_settled({"cid": (3, 1), "eve": (3, 2), "fay": (3, 2), "gus": (3, 1)}, code,
                            [("dad", 80), ("ann", 82), ("bob", 81)], {"dad": (9, 1)})
        self.assert_settled({"": (5, 1)}, code, [("dad", 80), ("cid", 90)], {"cid": (5, 1)})

    def test_one_who_is_dead_takes_nothing(self):
        code = code_of(classes=[("child", "heads", (0, 1)), ("up", "heads", (0, 1))])
        self.assert_settled({"dad": (5, 1), "mum": (5, 1)}, code, [("eve", 70), ("fay", 71), ("gus", 72), ("bob", 80)], {"bob": (10, 1)})
        self.assert_settled({"mum": (10, 1)}, code, [("eve", 70), ("fay", 71), ("dad", 80), ("bob", 81)], {"bob": (10, 1)})

    def test_what_comes_to_the_chest_stays_there(self):
        code = code_of(classes=[("grand", "heads", (0, 1))])
        self.assert_settled({"": (12, 1), "mum": (1, 1)}, code, [("cid", 80), ("ann", 81), ("gus", 82)],
                            {"cid": (5, 1), "ann": (4, 1), "gus": (3, 1), "mum": (1, 1)})

    def test_ahead_is_looked_at(self):
        given = [("given", "dad", "ann", 3, 50), ("given", "dad", "bob", 1, 81)]
        self.assert_settled({"ann": (1, 1), "bob": (4, 1), "cid": (4, 1)}, code_of(ahead=True), [("dad", 80)], {"dad": (9, 1)}, given)

    def test_a_night_in_which_no_order_matters(self):
        code = code_of(stand="child")
        # Whatever comes to bob goes on to eve and fay, by his death or because he does not live.
        wanted = {"ann": (3, 1), "cid": (3, 1), "eve": (3, 2), "fay": (3, 2)}
        self.assert_settled(wanted, code, [("dad", 80), ("bob", 80)], {"dad": (9, 1)})
        self.assert_settled({"ann": (3, 1), "bob": (3, 1), "cid": (3, 1)}, code, [("dad", 80), ("eve", 80), ("fay", 80)], {"dad": (9, 1)})
        self.assert_settled({"bob": (7, 1)}, code, [("dad", 80), ("mum", 80), ("cid", 80), ("ann", 80)], {"bob": (7, 1)})

    def unsure(self, book, code, holdings):
        with self.assertRaises(Unsure) as caught:
            settled(book, code, holdings)
        return caught.exception

    def assert_unsure(self, entries, told_code, held, day, refusal):
        """Each order told comes out as told, and they part."""
        self.assertEqual(refusal.day, day)
        night = sorted(one for one, died in dead_of(entries).items() if died == day)
        self.assertEqual((type(refusal.orders), type(refusal.holdings)), (list, list))
        self.assertEqual([sorted(order) for order in refusal.orders], [night] * 2)
        self.assertEqual([type(order) for order in refusal.orders], [list] * 2)
        self.assertNotEqual(refusal.holdings[0], refusal.holdings[1])
        for order, held_then in zip(refusal.orders, refusal.holdings):
            wanted = as_tuples(shared_out.after_order(entries, told_code, order, held))
            self.assertEqual(list(held_then.items()), list(wanted.items()), order)

    def test_a_night_in_which_orders_part(self):
        entries = BIRTHS + [("dead", "bob", 80), ("dead", "dad", 80)]
        code = code_of()
        refusal = self.unsure(book_with(entries), code, {"dad": (9, 1), "mum": (2, 1)})
        told = dict(zip([tuple(order) for order in refusal.orders], refusal.holdings))
        self.assertEqual(told, {
            ("dad", "bob"): {"ann": (3, 1), "cid": (3, 1), "eve": (3, 2), "fay": (3, 2), "mum": (2, 1)},
            ("bob", "dad"): {"ann": (9, 2), "cid": (9, 2), "mum": (2, 1)}})
        self.assertEqual(refusal.day, 80)
        self.assertEqual([list(held) for held in refusal.holdings], [sorted(held) for held in refusal.holdings])

    def test_orders_that_part_in_the_chest(self):
        entries = BIRTHS + [("dead", "ann", 80), ("dead", "gus", 80)]
        refusal = self.unsure(book_with(entries), code_of(classes=[("up", "heads", (0, 1))], stand="child"), {"gus": (1, 1)})
        told = dict(zip([tuple(order) for order in refusal.orders], refusal.holdings))
        self.assertEqual(told, {("ann", "gus"): {"": (1, 1)}, ("gus", "ann"): {"dad": (1, 2), "mum": (1, 2)}})

    def test_apart(self):
        deaths = [("dad", 80), ("bob", 80)]
        self.assert_settled({"ann": (9, 2), "cid": (9, 2)}, code_of(apart=True), deaths, {"dad": (9, 1)})
        self.assert_settled({"ann": (3, 1), "cid": (3, 1), "eve": (7, 2), "fay": (7, 2)}, code_of(apart=True, stand="child"), deaths,
                            {"dad": (9, 1), "bob": (4, 1)})
        code = code_of(apart=True, spouse="wife", classes=[("child", "lines", (1, 2))])
        self.assert_settled({"ann": (3, 1), "bob": (3, 1), "cid": (2, 1)}, code, [("dad", 80), ("mum", 80)], {"dad": (6, 1), "mum": (2, 1)})
        self.assert_settled({"ann": (2, 1), "bob": (2, 1), "cid": (1, 1), "mum": (5, 1)}, code, [("dad", 80)],
                            {"dad": (6, 1), "mum": (2, 1), "ann": (1, 1), "bob": (1, 1)})

    def test_nights_of_two_to_five(self):
        names = ["dad", "mum", "cid", "eve", "fay"]
        for count in range(1, 6):
            deaths = [(name, 80) for name in names[:count]]
            holdings = {name: (6, 1) for name in names}
            entries = BIRTHS + [("dead", name, day) for name, day in deaths]
            for rules in ({}, {"apart": True}, {"stand": "child"}):
                told_code, code = shared_out.code_with(**rules), code_of(**rules)
                wanted = shared_out.settled(entries, told_code, {name: Fraction(6) for name in names})
                found = answer(lambda: settled(book_with(entries), code, holdings))
                if count == 5 and not rules.get("apart"):
                    self.assertEqual((wanted, found), ("TooMany", "TooMany"))
                elif isinstance(wanted, tuple):
                    self.assertEqual(found, "Unsure")
                else:
                    self.assertEqual(found, as_tuples(wanted))

    def test_a_night_of_five_is_refused_whatever_is_held(self):
        names = ["dad", "mum", "cid", "eve", "fay"]
        book = book_with(BIRTHS + [("dead", name, 80) for name in names] + [("dead", "ann", 90)])
        for holdings in ({}, {"ann": (1, 1)}, {"gus": (1, 1)}, {"dad": (1, 1)}):
            self.assertEqual(refused(lambda: settled(book, code_of(), holdings)), "TooMany")
            self.assertEqual(refused(lambda: settled(book, code_of(apart=True), holdings)), None)

    def test_a_night_of_many_held_apart(self):
        names = ["x" + one for one in "abcdefghijklmnopqrstuvwxyz"]
        births = [("born", "dad", "he", 0, "", "")] + [("born", name, "", 1, "dad", "") for name in names]
        book = book_with(births + [("dead", name, 80) for name in ["dad"] + names[1:]])
        holdings = {name: (1, 1) for name in ["dad"] + names}
        self.assertEqual(settled(book, code_of(apart=True), holdings), {"": (25, 1), "xa": (2, 1)})
        self.assertEqual(settled(book, code_of(apart=True, classes=[("child", "lines", (0, 1)), ("sib", "heads", (0, 1))]), holdings),
                         {"xa": (27, 1)})
        self.assertEqual(refused(lambda: settled(book, code_of(), holdings)), "TooMany")

    def test_the_first_night_that_is_refused(self):
        pair, five = [("dad", 80), ("bob", 80)], [("mum", 81), ("cid", 81), ("eve", 81), ("fay", 81), ("gus", 81)]
        book = book_with(BIRTHS + [("dead", name, day) for name, day in pair + five])
        self.assertEqual(refused(lambda: settled(book, code_of(), {"dad": (9, 1)})), "Unsure")
        book = book_with(BIRTHS + [("dead", name, day - 2 if day == 81 else day) for name, day in pair + five])
        self.assertEqual(refused(lambda: settled(book, code_of(), {"dad": (9, 1)})), "TooMany")

    def test_names_and_fractions_that_are_none(self):
        night = [("dead", name, 80) for name in ("dad", "mum", "cid", "eve", "fay")]
        pair = [("dead", "dad", 80), ("dead", "bob", 80)]
        keys = [thing for thing in OTHER_KINDS + NUMBERS + TUPLES + ["", "zed", "Dad", "dad ", "toolongname"] if can_be_key(thing)]
        for deaths in ([], night, pair):
            book = book_with(BIRTHS + deaths)
            for thing in keys:
                for holdings in ({thing: (1, 1)}, {"dad": (9, 1), thing: (0, 1)}, {thing: (2, 4), "dad": (1, 1)},
                                 {"dad": (2, 4), thing: (1, 1)}, {thing: None}, {"dad": None, "mum": "x", thing: []}):
                    self.assertEqual(refused(lambda: settled(book, code_of(), holdings)), "NoPerson")
            for thing in NO_FRACTIONS:
                for holdings in ({"dad": thing}, {"ann": thing, "dad": (9, 1)}, {"dad": (9, 1), "gus": thing}):
                    self.assertEqual(refused(lambda: settled(book, code_of(), holdings)), "NoNumber", repr(thing))
        for holdings in ({"zed": (1, 1)}, {}):
            self.assertEqual(refused(lambda: settled(Book(), code_of(), holdings)), "NoPerson" if holdings else None)

    def test_what_was_refused_is_looked_at_anew(self):
        book, holdings = book_with(BIRTHS + [("dead", "dad", 80)]), {"dad": (2, 4)}
        self.assertEqual(refused(lambda: settled(book, code_of(), holdings)), "NoNumber")
        holdings["dad"] = (1, 2)
        self.assertEqual(settled(book, code_of(), holdings), {"ann": (1, 6), "bob": (1, 6), "cid": (1, 6)})
        book.put(("dead", "bob", 80))
        self.assertEqual(refused(lambda: settled(book, code_of(), holdings)), "Unsure")
        self.assertEqual(settled(book, code_of(stand="child"), holdings), {"ann": (1, 6), "cid": (1, 6), "eve": (1, 12), "fay": (1, 12)})

    def test_what_is_told_is_the_asker_s_own(self):
        book, holdings = book_with(BIRTHS + [("dead", "dad", 80)]), {"dad": (9, 1), "mum": (1, 1)}
        before = plain.all_of(book, [None])
        told = settled(book, code_of(), holdings)
        kept = dict(told)
        told.clear()
        self.assertEqual(settled(book, code_of(), holdings), kept)
        nobody = {"mum": (1, 1)}
        settled(book_with(BIRTHS), code_of(), nobody)["ann"] = (1, 1)
        self.assertEqual(nobody, {"mum": (1, 1)})
        self.assertEqual(plain.all_of(book, [None]), before)
        book.put(("dead", "bob", 80))
        refusals = [self.unsure(book, code_of(), holdings) for turn in range(2)]
        kept = copy.deepcopy([refusals[1].orders, refusals[1].holdings])
        for order in refusals[0].orders:
            order.clear()
        for held in refusals[0].holdings:
            held.clear()
        refusals[0].orders.clear()
        self.assertEqual([refusals[1].orders, refusals[1].holdings], kept)
        self.assertEqual(holdings, {"dad": (9, 1), "mum": (1, 1)})

    def test_drawn_ones(self):
        kinds = []
        for number in range(300):
            chance = random.Random(number)
            entries = drawn_night(number)
            told_code = drawn_code(number, apart=number % 4 == 0, stand=chance.choice(["", "child", "child", "son"]))
            if number % 3 == 0:
                told_code["classes"] = [("child", "lines", (1, 2)), ("up", "lines", (0, 1)), ("sib", "heads", (0, 1))]
            book, code = book_with(entries), Code(TONGUE, code_text(told_code))
            held = drawn_holdings(chance, sorted(plain.births(entries)))
            holdings = as_tuples(held)
            wanted = shared_out.settled(entries, told_code, held)
            try:
                told = settled(book, code, holdings)
            except HeirError as refusal:
                told = refusal
            self.assertEqual(list(holdings.items()), list(as_tuples(held).items()))
            if isinstance(wanted, tuple):
                self.assertIsInstance(told, Unsure, (number, wanted))
                self.assert_unsure(entries, told_code, wanted[1], wanted[0], told)
                kinds.append("unsure")
            else:
                self.assertEqual(list(told.items()), list(as_tuples(wanted).items()), number)
                self.assertEqual(sum(wanted.values()), sum(held.values()))
                kinds.append("apart" if told_code["apart"] else "settled")
        for one in ("unsure", "apart", "settled"):
            self.assertGreater(kinds.count(one), 50, one)

    def test_in_whatever_order_entries_were_let_in(self):
        for number in range(20):
            entries, code = drawn_night(number), Code(TONGUE, code_text(drawn_code(number)))
            mixed = [entry for entry in entries if entry[0] != "born"]
            random.Random(number).shuffle(mixed)
            other = book_with([entry for entry in entries if entry[0] == "born"] + mixed)
            holdings = {name: as_tuple(Fraction(7, 2)) for name in sorted(plain.births(entries))}
            back = dict(reversed(holdings.items()))
            found = [answer(lambda: settled(one, code, some)) for one, some in itertools.product((other, book_with(entries)),
                                                                                               (holdings, back))]
            self.assertEqual(found, found[:1] * 4)
            if isinstance(found[0], dict):
                self.assertEqual([list(one) for one in found], [sorted(found[0])] * 4)


def can_be_key(thing):
    try:
        return isinstance(hash(thing), int)
    except TypeError:
        return False


if __name__ == "__main__":
    unittest.main()
