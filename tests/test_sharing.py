import copy
import random
import unittest
from fractions import Fraction

import plain
from drawn import answer, book_with, refused
from estates import FAMILY, NOBODYS, cases, code_of
from heirbook.book import Book
from heirbook.sharing import Estate, living_at, shares, takers
from shared_out import Sharing, as_fractions, as_tuple, as_tuples, code_text, code_with


class LivingTest(unittest.TestCase):
    def test_deaths_before_on_and_behind_the_day(self):
        book = book_with(FAMILY + [("dead", "ann", 79), ("dead", "bob", 80), ("dead", "cid", 81), ("born", "ivo", "", 80, "", ""),
                                   ("born", "joy", "", 81, "", "")])
        self.assertEqual(living_at(book, "dad"), ["cid", "eve", "fay", "gus", "hal", "ivo", "mum", "una"])
        self.assertEqual(living_at(book, "ann"), ["bob", "cid", "dad", "eve", "fay", "gus", "hal", "mum", "una"])
        self.assertEqual(living_at(book, "cid"), ["eve", "fay", "gus", "hal", "ivo", "joy", "mum", "una"])
        self.assertIs(type(living_at(book, "dad")), list)

    def test_lists_of_the_living(self):
        book = book_with(FAMILY + [("dead", "ann", 79), ("born", "joy", "", 81, "", "")])
        for living, wanted in (([], []), (["mum", "ann", "mum"], ["ann", "mum"]), (["dad"], []), (["zed", "", "joy", "fay"], ["fay"]),
                               (["una", "dad", "ann", "Ann", "bob"], ["ann", "bob", "una"])):
            kept = list(living)
            self.assertEqual(living_at(book, "dad", living), wanted)
            self.assertEqual(Estate(book, code_of(), "dad", living).living(), wanted)
            self.assertEqual(living, kept)
        self.assertEqual(len(living_at(book, "dad")), 8)
        self.assertEqual(living_at(book, "dad", book.people()), sorted(set(book.people()) - {"dad", "joy"}))

    def test_refusals(self):
        code = code_of()
        for book in (book_with(FAMILY), Book()):
            for living in (None, [], ["mum"], ["zed", "dad"]):
                for name in NOBODYS:
                    for ask in (lambda: living_at(book, name, living), lambda: takers(book, code, name, 0, living),
                                lambda: shares(book, code, name, living), lambda: Estate(book, code, name, living)):
                        self.assertEqual(refused(ask), "NoPerson")
        book = book_with(FAMILY)
        for living in (None, [], ["mum"], ["zed", "dad"]):
            for name in ("mum", "ann", "gus"):
                for ask in (lambda: living_at(book, name, living), lambda: takers(book, code, name, 0, living),
                            lambda: shares(book, code, name, living), lambda: Estate(book, code, name, living)):
                    self.assertEqual(refused(ask), "Alive")

    def test_drawn_ones(self):
        for number, entries, book, told, code, name, living in cases(60):
            wanted = Sharing(entries, told, name, living)
            self.assertEqual(living_at(book, name, living), wanted.living, (number, name))
            self.assertEqual(Estate(book, code, name, living).living(), wanted.living)


class TakersTest(unittest.TestCase):
    def assert_takers(self, entries, code, wanted, living=None):
        book = book_with(entries)
        estate = Estate(book, code, "dad", living)
        for number, names in enumerate(wanted):
            self.assertEqual(takers(book, code, "dad", number, living), names)
            self.assertEqual(estate.takers(number), names)
        self.assertEqual(estate.chosen(), next((number for number, names in enumerate(wanted) if names), None))

    def test_by_heads_and_by_lines(self):
        both = [("child", "heads", (0, 1)), ("child", "lines", (0, 1))]
        gone = FAMILY + [("dead", "bob", 70), ("dead", "ann", 70)]
        self.assert_takers(FAMILY, code_of(classes=both), [["ann", "bob", "cid"]] * 2)
        self.assert_takers(gone, code_of(classes=both), [["cid"], ["cid"]])
        self.assert_takers(gone, code_of(classes=both, stand="child"), [["cid"], ["bob", "cid"]])
        self.assert_takers(gone, code_of(classes=both, stand="son"), [["cid"], ["cid"]])
        self.assert_takers(gone + [("dead", "eve", 71)], code_of(classes=both, stand="child"), [["cid"], ["bob", "cid"]])
        self.assert_takers(gone + [("dead", "eve", 71), ("dead", "fay", 71), ("dead", "gus", 71)],
                           code_of(classes=both, stand="child"), [["cid"], ["cid"]])
        self.assert_takers(gone, code_of(classes=both, stand="child"), [["ann"], ["ann", "bob"]], ["ann", "gus"])
        self.assert_takers(gone, code_of(classes=both, stand="child"), [[], []], [])

    def test_the_dead_one_takes_nothing(self):
        for how in ("heads", "lines"):
            code = code_of(classes=[("self", how, (0, 1)), ("child", how, (0, 1))], stand="child")
            self.assert_takers(FAMILY, code, [[], ["ann", "bob", "cid"]])
            self.assert_takers(FAMILY, code, [[], ["ann"]], ["dad", "ann"])

    def test_the_dead_one_has_no_line(self):
        entries = FAMILY + [("born", "son", "he", 90, "", ""), ("dead", "bob", 95)]
        book = book_with(entries)
        code = code_of(classes=[("up", "lines", (0, 1)), ("wife", "lines", (0, 1))], stand="child")
        # Nobody but bob and his children are below dad, and mum: bob is the dead one, mum lives not.
        self.assertEqual(takers(book, code, "bob", 0, ["eve"]), [])
        self.assertEqual(takers(book, code, "bob", 0, ["eve", "ann"]), ["dad", "mum"])

    def test_drawn_ones(self):
        for number, entries, book, told, code, name, living in cases(80):
            wanted, estate = Sharing(entries, told, name, living), Estate(book, code, name, living)
            for turn in range(len(told["classes"])):
                self.assertEqual(takers(book, code, name, turn, living), wanted.takers(turn), (number, name, turn))
                self.assertEqual(estate.takers(turn), wanted.takers(turn))
            self.assertEqual(estate.chosen(), wanted.chosen())
            self.assertEqual(estate.spouses(), wanted.spouses())


class SharesTest(unittest.TestCase):
    def assert_shares(self, wanted, code, entries=(), living=None):
        told = shares(book_with(FAMILY + list(entries)), code, "dad", living)
        self.assertEqual(list(told.items()), list(wanted.items()))

    def test_by_heads_and_by_lines(self):
        gone = [("dead", "bob", 70), ("dead", "cid", 70)]
        self.assert_shares({"ann": (1, 3), "bob": (1, 3), "cid": (1, 3)}, code_of())
        self.assert_shares({"ann": (1, 3), "eve": (1, 6), "fay": (1, 6), "hal": (1, 3)}, code_of(stand="child"), gone)
        self.assert_shares({"ann": (1, 1)}, code_of(), gone)
        self.assert_shares({"ann": (1, 1)}, code_of(stand="child", classes=[("child", "heads", (0, 1))]), gone)
        self.assert_shares({"ann": (1, 2), "hal": (1, 2)}, code_of(stand="son"), gone)

    def test_several_generations(self):
        gone = [("dead", "bob", 70), ("dead", "eve", 71), ("dead", "fay", 72)]
        self.assert_shares({"ann": (1, 3), "cid": (1, 3), "gus": (1, 3)}, code_of(stand="child"), gone)
        self.assert_shares({"ann": (1, 2), "cid": (1, 2)}, code_of(stand="child"), gone + [("dead", "gus", 73)])

    def test_the_class_that_takes(self):
        code = code_of(classes=[("grand", "heads", (0, 1)), ("child", "lines", (0, 1)), ("wife", "heads", (0, 1))], stand="child")
        self.assert_shares({"eve": (1, 3), "fay": (1, 3), "hal": (1, 3)}, code)
        gone = [("dead", name, 70) for name in ("eve", "fay", "hal")]
        self.assert_shares({"ann": (1, 3), "bob": (1, 3), "cid": (1, 3)}, code, gone)
        gone += [("dead", name, 71) for name in ("ann", "bob", "cid")]
        self.assert_shares({"gus": (1, 1)}, code, gone)
        self.assert_shares({"mum": (1, 2), "una": (1, 2)}, code, gone + [("dead", "gus", 72)])
        self.assert_shares({"": (1, 1)}, code, gone + [("dead", name, 72) for name in ("gus", "mum", "una")])

    def test_spouses(self):
        for share, spouse, child in (((0, 1), None, (1, 3)), ((1, 2), (1, 4), (1, 6)), ((1, 1), (1, 2), None), ((1, 3), (1, 6), (2, 9))):
            wanted = {"ann": child, "bob": child, "cid": child, "mum": spouse, "una": spouse}
            self.assert_shares({name: part for name, part in wanted.items() if part},
                               code_of(spouse="wife", classes=[("child", "heads", share)]))
        code = code_of(spouse="wife", classes=[("child", "heads", (1, 2))])
        self.assert_shares({"ann": (1, 6), "bob": (1, 6), "cid": (1, 6), "una": (1, 2)}, code, [("dead", "mum", 79)])
        self.assert_shares({"ann": (1, 3), "bob": (1, 3), "cid": (1, 3)}, code, [("dead", "mum", 79), ("parted", "dad", "una", 80)])
        self.assert_shares({"ann": (1, 6), "bob": (1, 6), "cid": (1, 6), "una": (1, 2)}, code,
                           [("dead", "mum", 79), ("parted", "dad", "una", 81)])

    def test_spouses_where_no_class_takes(self):
        nobody = [("up", "heads", (1, 3))]
        for alone, wanted in ((None, {"mum": (1, 2), "una": (1, 2)}), ((1, 1), {"mum": (1, 2), "una": (1, 2)}), ((0, 1), {"": (1, 1)}),
                              ((1, 2), {"": (1, 2), "mum": (1, 4), "una": (1, 4)})):
            self.assert_shares(wanted, code_of(spouse="wife", classes=nobody, alone=alone))
        self.assert_shares({"": (1, 1)}, code_of(classes=nobody))
        self.assert_shares({"": (1, 1)}, code_of(classes=nobody, alone=(1, 2)))
        self.assert_shares({"": (1, 1)}, code_of(spouse="wife", classes=nobody), living=["ann"])
        # Alone tells nothing where a class takes.
        self.assert_shares({"ann": (1, 3), "bob": (1, 3), "cid": (1, 3)}, code_of(spouse="wife", alone=(1, 2)))

    def test_one_who_takes_in_several_ways(self):
        code = code_of(spouse="wife", classes=[("wife", "heads", (1, 2))])
        self.assert_shares({"mum": (1, 2), "una": (1, 2)}, code)
        code = code_of(spouse="child", classes=[("child", "lines", (1, 4))], stand="child")
        self.assert_shares({"ann": (3, 8), "cid": (3, 8), "eve": (1, 4)}, code, living=["ann", "cid", "eve"])
        gone = [("dead", "bob", 70), ("dead", "cid", 70), ("taken", "eve", "cid", 60), ("taken", "hal", "ann", 60)]
        self.assert_shares({"ann": (1, 3), "eve": (1, 3), "fay": (1, 6), "hal": (1, 6)}, code_of(stand="child"), gone)

    def test_the_same_one_reached_in_several_ways_within_a_word(self):
        gone = [("taken", "gus", "eve", 70), ("dead", "bob", 70), ("dead", "eve", 70), ("taken", "gus", "bob", 70)]
        # gus is the child of eve both by birth and taken in, and that of bob: each word leads to him once.
        self.assert_shares({"ann": (1, 3), "cid": (1, 3), "fay": (1, 9), "gus": (2, 9)}, code_of(stand="child"), gone)

    def test_entries_of_later_days_change_nothing(self):
        later = [("born", "new", "he", 81, "dad", "mum"), ("dead", "ann", 81), ("parted", "dad", "mum", 81),
                 ("union", "dad", "eve", 82), ("taken", "hal", "dad", 81), ("given", "dad", "ann", 5, 90)]
        code = code_of(spouse="wife", classes=[("child", "lines", (1, 2))], stand="child")
        self.assert_shares({"ann": (1, 6), "bob": (1, 6), "cid": (1, 6), "mum": (1, 4), "una": (1, 4)}, code, later)

    def test_ahead_and_apart_change_nothing_here(self):
        given = [("given", "dad", "ann", 100, 30), ("dead", "bob", 80)]
        wanted = {"ann": (1, 3), "cid": (1, 3), "eve": (1, 6), "fay": (1, 6)}
        for ahead in (False, True):
            for apart in (False, True):
                self.assert_shares(wanted, code_of(stand="child", ahead=ahead, apart=apart), given)

    def test_drawn_ones(self):
        kinds = []
        for number, entries, book, told, code, name, living in cases(400):
            wanted = Sharing(entries, told, name, living).shares()
            found = shares(book, code, name, living)
            self.assertEqual(list(found.items()), list(as_tuples(wanted).items()), (number, name))
            self.assertEqual(sum(wanted.values()), 1)
            self.assertTrue(all(part > 0 for part in wanted.values()))
            kinds.append((len(wanted), "" in wanted))
        for one in ((1, True), (1, False), (2, True), (2, False), (3, False), (4, False)):
            self.assertGreater(kinds.count(one), 10, one)

    def test_long_lines(self):
        names = [one + other for one in "abcdef" for other in "abcdefghij"]
        entries = [("born", "aa", "he", 0, "", "")]
        for number in range(1, 60):
            entries.append(("born", names[number], "he", number, names[number - 1], ""))
        for number in range(2, 60):
            entries.append(("taken", names[number], names[number - 2], 100))
        entries += [("dead", name, 200) for name in names[1:-1]] + [("dead", "aa", 201)]
        told = shares(book_with(entries), code_of(stand="child"), "aa")
        self.assertEqual(told, {"fj": (1, 1)})

    def test_what_is_handed_in_stays(self):
        book, code, living = book_with(FAMILY), code_of(stand="child", spouse="wife"), ["mum", "zed", "eve", "eve"]
        before = plain.all_of(book, plain.days_around(FAMILY))
        for ask in (lambda: shares(book, code, "dad", living), lambda: takers(book, code, "dad", 0, living),
                    lambda: living_at(book, "dad", living), lambda: Estate(book, code, "dad", living).first()):
            told = ask()
            told.clear()
            self.assertEqual(ask() != told, True)
        self.assertEqual(living, ["mum", "zed", "eve", "eve"])
        self.assertEqual(plain.all_of(book, plain.days_around(FAMILY)), before)
        self.assertEqual(code.text(), code_text(code_with(stand="child", spouse="wife")))


def all_told(estate):
    """All that an estate tells, copied."""
    return copy.deepcopy([
        estate.living(), estate.spouses(), [estate.takers(number) for number in range(2)], estate.chosen(), estate.for_spouses(),
        estate.rest(), list(estate.first().items()), [estate.heirs(name) for name in ("ann", "bob", "dad", "eve", "mum", "hal")],
        estate.passed({"bob": (1, 2), "eve": (1, 6), "": (1, 3)}),
    ])


class EstateTest(unittest.TestCase):
    def test_of_the_family(self):
        code = code_of(spouse="wife", stand="child", classes=[("up", "heads", (1, 3)), ("child", "lines", (1, 2))])
        book = book_with(FAMILY + [("dead", "bob", 70), ("dead", "eve", 70)])
        estate = Estate(book, code, "dad")
        self.assertEqual(estate.living(), ["ann", "cid", "fay", "gus", "hal", "mum", "una"])
        self.assertEqual(estate.spouses(), ["mum", "una"])
        self.assertEqual([estate.takers(0), estate.takers(1)], [[], ["ann", "bob", "cid"]])
        self.assertEqual((estate.chosen(), estate.for_spouses(), estate.rest()), (1, (1, 2), (1, 2)))
        self.assertEqual(estate.first(), {"ann": (1, 6), "bob": (1, 6), "cid": (1, 6), "mum": (1, 4), "una": (1, 4)})
        self.assertEqual(estate.passed(estate.first()), (
            {"ann": (1, 6), "cid": (1, 6), "fay": (1, 12), "gus": (1, 12), "mum": (1, 4), "una": (1, 4)},
            [("bob", (1, 6), ["eve", "fay"]), ("eve", (1, 12), ["gus"])]))

    def test_kinds(self):
        estate = Estate(book_with(FAMILY), code_of(spouse="wife"), "dad")
        self.assertEqual([type(one) for one in (estate.living(), estate.spouses(), estate.takers(0), estate.heirs("ann"))], [list] * 4)
        self.assertEqual([type(one) for one in (estate.chosen(), estate.for_spouses(), estate.rest(), estate.first())],
                         [int, tuple, tuple, dict])
        told = estate.passed({"ann": (1, 1)})
        self.assertEqual((type(told), type(told[0]), type(told[1])), (tuple, dict, list))
        self.assertEqual(told, ({"ann": (1, 1)}, []))
        self.assertIsNone(Estate(book_with(FAMILY), code_of(spouse="wife"), "dad", []).chosen())

    def test_heirs(self):
        book = book_with(FAMILY + [("dead", "bob", 70), ("dead", "eve", 70), ("dead", "una", 70), ("dead", "hal", 90)])
        estate = Estate(book, code_of(stand="child"), "dad")
        self.assertEqual([estate.heirs(name) for name in ("bob", "eve", "una", "ann", "cid", "dad", "gus", "hal")],
                         [["eve", "fay"], ["gus"], [], [], [], [], [], []])
        estate = Estate(book, code_of(), "dad")
        self.assertEqual([estate.heirs(name) for name in book.people()], [[]] * 10)
        estate = Estate(book, code_of(stand="child"), "dad", ["gus"])
        self.assertEqual([estate.heirs(name) for name in ("bob", "eve", "cid", "fay", "mum", "gus", "dad")],
                         [["eve"], ["gus"], [], [], ["bob"], [], []])

    def test_drawn_ones(self):
        for number, entries, book, told, code, name, living in cases(150):
            wanted, estate = Sharing(entries, told, name, living), Estate(book, code, name, living)
            self.assertEqual(estate.for_spouses(), as_tuple(wanted.for_spouses()))
            self.assertEqual(estate.rest(), as_tuple(1 - wanted.for_spouses()))
            first = estate.first()
            self.assertEqual(list(first.items()), list(as_tuples(wanted.first()).items()))
            self.assertEqual([estate.heirs(one) for one in wanted.people], [wanted.heirs(one) for one in wanted.people])
            self.assert_passed(estate, wanted, first, (number, name))

    def assert_passed(self, estate, wanted, come, where):
        kept = list(come.items())
        told, rows = estate.passed(come)
        self.assertEqual(list(come.items()), kept)
        ended, went = wanted.passed(as_fractions(come))
        self.assertEqual(list(told.items()), list(as_tuples(ended).items()), where)
        self.assertEqual(rows, [(one, as_tuple(part), names) for one, part, names in went], where)

    def test_passed_of_drawn_dicts(self):
        long = 0
        for number, entries, book, told, code, name, living in cases(150, people=11, deaths=8):
            wanted, estate = Sharing(entries, told, name, living), Estate(book, code, name, living)
            chance = random.Random(number)
            names = [one for one in wanted.people if wanted.has_line(one)] + [""]
            for turn in range(4):
                some = chance.sample(names, chance.randrange(len(names) + 1))
                come = {one: as_tuple(Fraction(chance.randrange(1, 50), chance.randrange(1, 9))) for one in some}
                self.assert_passed(estate, wanted, come, (number, name, come))
                long += len(estate.passed(come)[1]) > 2
        self.assertGreater(long, 20)

    def test_rows_in_the_order_of_births_and_then_of_names(self):
        entries = [("born", "dad", "he", 0, "", ""), ("born", "zoe", "she", 20, "dad", ""), ("born", "cid", "he", 21, "dad", ""),
                   ("born", "bob", "he", 21, "dad", ""), ("born", "abe", "he", 22, "dad", ""), ("born", "kid", "", 40, "", "zoe"),
                   ("born", "lad", "", 40, "cid", "zoe"), ("born", "may", "", 40, "bob", ""), ("born", "ned", "", 40, "abe", "")]
        entries += [("dead", name, 50) for name in ("zoe", "cid", "bob", "abe")] + [("dead", "dad", 60)]
        estate = Estate(book_with(entries), code_of(stand="child"), "dad")
        for turn in range(20):
            names = ["abe", "bob", "cid", "zoe"]
            random.Random(turn).shuffle(names)
            told, rows = estate.passed({name: (1, 4) for name in names})
            self.assertEqual(rows, [("zoe", (1, 4), ["kid", "lad"]), ("bob", (1, 4), ["may"]), ("cid", (1, 4), ["lad"]),
                                    ("abe", (1, 4), ["ned"])])
            self.assertEqual(list(told.items()), [("kid", (1, 8)), ("lad", (3, 8)), ("may", (1, 4)), ("ned", (1, 4))])

    def test_it_tells_what_stood_when_it_was_made(self):
        later = [("born", "new", "he", 60, "dad", "mum"), ("born", "neo", "he", 60, "bob", ""), ("dead", "mum", 75),
                 ("taken", "hal", "dad", 60), ("parted", "dad", "una", 60), ("taken", "gus", "dad", 66), ("dead", "cid", 80)]
        code = code_of(spouse="wife", stand="child", classes=[("grand", "heads", (1, 2)), ("child", "lines", (1, 3))])
        for handed in (None, ["ann", "mum", "gus", "fay"]):
            book = book_with(FAMILY + [("dead", "bob", 70), ("dead", "eve", 71)])
            living = handed and list(handed)
            asked, unasked = Estate(book, code, "dad", living), Estate(book, code, "dad", living)
            kept = all_told(asked)
            if living:
                living[:2] = ["cid"]
            for entry in later:
                book.put(entry)
            self.assertEqual(all_told(asked), kept)
            self.assertEqual(all_told(unasked), kept)
            self.assertNotEqual(all_told(Estate(book, code, "dad", handed)), kept)

    def test_what_it_told_is_the_asker_s_own(self):
        book = book_with(FAMILY + [("dead", "bob", 70)])
        estate = Estate(book, code_of(spouse="wife", stand="child", classes=[("child", "lines", (1, 2))] * 2), "dad")
        kept = all_told(estate)
        for told in (estate.living(), estate.spouses(), estate.takers(0), estate.first(), estate.heirs("bob")):
            self.assertNotEqual(len(told), 0)
            told.clear()
        ended, rows = estate.passed({"bob": (1, 1)})
        ended.clear()
        rows[0][2].append("zed")
        rows.clear()
        self.assertEqual(all_told(estate), kept)

    def test_in_whatever_order_entries_were_let_in(self):
        for number, entries, book, told, code, name, living in cases(30):
            mixed = [entry for entry in entries if entry[0] != "born"]
            random.Random(number).shuffle(mixed)
            other = book_with([entry for entry in entries if entry[0] == "born"] + mixed)
            self.assertEqual(answer(lambda: shares(other, code, name, living)), shares(book, code, name, living))


if __name__ == "__main__":
    unittest.main()
