import copy
import random
import unittest
from fractions import Fraction

import plain
from drawn import book_with, refused
from estates import FAMILY, NOBODYS, cases, code_of
from heirbook.book import Book
from heirbook.papers import lets_by, paper
from heirbook.sharing import shares
from samples import NUMBERS, OTHER_KINDS, TEXTS, TUPLES
from shared_out import Sharing, as_tuple, as_tuples


def wanted_paper(sharing):
    """8.1."""
    chosen, spouses = sharing.chosen(), sharing.spouses()
    ended, went = sharing.passed(sharing.first())
    rows = [("none", number) for number in range(len(sharing.code["classes"]) if chosen is None else chosen)]
    rows += [("spouses", spouses, as_tuple(sharing.for_spouses()))] if spouses else []
    rows += [] if chosen is None else [("class", chosen, sharing.takers(chosen), as_tuple(1 - sharing.for_spouses()))]
    rows += [("line", one, as_tuple(part), names) for one, part, names in went]
    return rows + ([("chest", as_tuple(ended[""]))] if "" in ended else [])


def shares_by(rows):
    """What comes to each by the rows of a paper; whoever has a row of a line passes all of it on."""
    came = {}
    for row in rows:
        if row[0] in ("spouses", "class", "line"):
            names, part = {"spouses": row[1:], "class": row[2:], "line": row[:1:-1]}[row[0]]
            for name in names:
                came[name] = came.get(name, 0) + Fraction(*part) / len(names)
        if row[0] == "chest":
            came[""] = Fraction(*row[1])
    lines = {row[1]: Fraction(*row[2]) for row in rows if row[0] == "line"}
    return {name: came[name] for name in sorted(came) if came[name] > 0 and name not in lines}, {
        name: came[name] for name in lines}, lines


class PaperTest(unittest.TestCase):
    def assert_paper(self, wanted, code, entries=(), living=None):
        book = book_with(FAMILY + list(entries))
        told = paper(book, code, "dad", living)
        self.assertEqual(told, wanted)
        self.assertIs(lets_by(book, code, "dad", told, living), True)
        self.assertIs(lets_by(book, code, "dad", copy.deepcopy(wanted), living), True)

    def test_a_class_alone(self):
        self.assert_paper([("class", 0, ["ann", "bob", "cid"], (1, 1))], code_of())

    def test_each_kind_of_row(self):
        code = code_of(spouse="wife", stand="child", classes=[("up", "heads", (0, 1)), ("far", "heads", (0, 1)),
                                                              ("child", "lines", (1, 4))])
        gone = [("dead", "bob", 70), ("dead", "eve", 70)]
        self.assert_paper([("none", 0), ("none", 1), ("spouses", ["mum"], (1, 4)), ("class", 2, ["bob"], (3, 4)),
                           ("line", "bob", (3, 4), ["eve"]), ("line", "eve", (3, 4), ["gus"])], code, gone, ["mum", "gus"])
        code = code_of(spouse="wife", classes=[("up", "heads", (0, 1)), ("grand", "lines", (1, 3))], alone=(1, 3))
        self.assert_paper([("none", 0), ("none", 1), ("spouses", ["mum", "una"], (1, 3)), ("chest", (2, 3))], code,
                          living=["mum", "una", "ann"])
        self.assert_paper([("none", 0), ("none", 1), ("chest", (1, 1))], code, living=[])
        self.assert_paper([("none", 0), ("spouses", ["una"], (1, 3)), ("class", 1, ["hal"], (2, 3))], code, living=["una", "hal"])

    def test_rows_with_a_part_of_nought(self):
        code = code_of(spouse="wife", stand="child", classes=[("child", "lines", (1, 1))])
        gone = [("dead", "bob", 70)]
        self.assert_paper([("spouses", ["mum", "una"], (1, 1)), ("class", 0, ["ann", "bob", "cid"], (0, 1))], code, gone)
        code = code_of(spouse="wife", stand="child", classes=[("child", "lines", (0, 1))])
        self.assert_paper([("spouses", ["mum", "una"], (0, 1)), ("class", 0, ["ann", "bob", "cid"], (1, 1)),
                           ("line", "bob", (1, 3), ["eve", "fay"])], code, gone)
        code = code_of(spouse="wife", classes=[("up", "lines", (1, 2))], alone=(0, 1))
        self.assert_paper([("none", 0), ("spouses", ["mum", "una"], (0, 1)), ("chest", (1, 1))], code)
        code = code_of(spouse="wife", classes=[("up", "lines", (1, 2))])
        self.assert_paper([("none", 0), ("spouses", ["mum", "una"], (1, 1))], code)

    def test_rows_of_lines_in_the_order_of_births_and_then_of_names(self):
        entries = [("born", "dad", "he", 0, "", ""), ("born", "zoe", "she", 20, "dad", ""), ("born", "cid", "he", 21, "dad", ""),
                   ("born", "bob", "he", 21, "dad", ""), ("born", "abe", "he", 22, "dad", ""), ("born", "kid", "he", 40, "", "zoe"),
                   ("born", "may", "", 40, "bob", ""), ("born", "ned", "", 40, "abe", ""), ("born", "pip", "", 41, "cid", ""),
                   ("born", "lad", "", 60, "kid", "")]
        entries += [("dead", name, 70) for name in ("zoe", "cid", "bob", "abe", "kid")] + [("dead", "dad", 80)]
        self.assertEqual(paper(book_with(entries), code_of(stand="child"), "dad"), [
            ("class", 0, ["abe", "bob", "cid", "zoe"], (1, 1)), ("line", "zoe", (1, 4), ["kid"]), ("line", "bob", (1, 4), ["may"]),
            ("line", "cid", (1, 4), ["pip"]), ("line", "abe", (1, 4), ["ned"]), ("line", "kid", (1, 4), ["lad"])])

    def test_all_that_comes_to_one_in_several_ways_is_one_row(self):
        gone = [("dead", "bob", 70), ("dead", "cid", 70), ("taken", "eve", "cid", 60), ("dead", "eve", 70)]
        self.assert_paper([("class", 0, ["ann", "bob", "cid"], (1, 1)), ("line", "bob", (1, 3), ["eve", "fay"]),
                           ("line", "cid", (1, 3), ["eve", "hal"]), ("line", "eve", (1, 3), ["gus"])], code_of(stand="child"), gone)

    def test_drawn_ones(self):
        kinds = []
        for number, entries, book, told, code, name, living in cases(200):
            sharing = Sharing(entries, told, name, living)
            rows = paper(book, code, name, living)
            self.assertEqual(rows, wanted_paper(sharing), (number, name))
            self.assertIs(type(rows), list)
            self.assertTrue(all(type(row) is tuple for row in rows))
            self.assertIs(lets_by(book, code, name, rows, living), True)
            kinds += [row[0] for row in rows]
            ended, passed, lines = shares_by(rows)
            self.assertEqual(passed, lines)
            self.assertEqual(as_tuples(ended), shares(book, code, name, living))
        for one in ("none", "spouses", "class", "line", "chest"):
            self.assertGreater(kinds.count(one), 30, one)

    def test_what_is_told_is_the_asker_s_own(self):
        book = book_with(FAMILY + [("dead", "bob", 70)])
        code = code_of(spouse="wife", stand="child", classes=[("child", "lines", (1, 2))])
        told = paper(book, code, "dad")
        kept = copy.deepcopy(told)
        for row in told:
            for part in row:
                if isinstance(part, list):
                    part.append("zed")
        told.reverse()
        self.assertEqual(paper(book, code, "dad"), kept)
        self.assertIs(lets_by(book, code, "dad", told), False)
        self.assertIs(lets_by(book, code, "dad", kept), True)
        again = paper(book, code, "dad")
        book.put(("born", "new", "", 75, "bob", ""))
        self.assertEqual(again, kept)
        self.assertIs(lets_by(book, code, "dad", again), False)

    def test_refusals(self):
        code, right = code_of(), paper(book_with(FAMILY), code_of(), "dad")
        for book in (book_with(FAMILY), Book()):
            for living in (None, [], ["mum"]):
                for name in NOBODYS:
                    self.assertEqual(refused(lambda: paper(book, code, name, living)), "NoPerson")
                    for some in (right, None, [], "paper", 5, {}):
                        self.assertEqual(refused(lambda: lets_by(book, code, name, some, living)), "NoPerson")
        for living in (None, [], ["mum"]):
            for name in ("mum", "gus"):
                self.assertEqual(refused(lambda: paper(book_with(FAMILY), code, name, living)), "Alive")
                for some in [right, [], {}, "paper"] + OTHER_KINDS + NUMBERS + TUPLES:
                    self.assertEqual(refused(lambda: lets_by(book_with(FAMILY), code, name, some, living)), "Alive")


def changed_in_kind(thing):
    """All things that differ from the thing in the kind of one place."""
    if isinstance(thing, int):
        return [float(thing), str(thing), None] + ([bool(thing)] if thing in (0, 1) else []) + [Fraction(thing)]
    if isinstance(thing, str):
        return [thing.encode(), [thing], (thing,), None]
    other = tuple(thing) if isinstance(thing, list) else list(thing)
    more = [other]
    for number, part in enumerate(thing):
        more += [type(thing)([*thing[:number], one, *thing[number + 1:]]) for one in changed_in_kind(part)]
    return more


def changed_in_value(thing):
    """Things of the same kinds that differ in the value of one place."""
    if isinstance(thing, int):
        return [thing + 1, thing - 1, -thing if thing else 2]
    if isinstance(thing, str):
        return [thing + "x", thing[:-1], thing.upper(), ""]
    more = [type(thing)(thing[:number] + thing[number + 1:]) for number in range(len(thing))]
    more += [type(thing)(thing[:number] + thing[number:number + 1] + thing[number:]) for number in range(len(thing))]
    more += [type(thing)([*thing[:number], thing[number + 1], thing[number], *thing[number + 2:]])
             for number in range(len(thing) - 1) if thing[number] != thing[number + 1]]
    for number, part in enumerate(thing):
        more += [type(thing)([*thing[:number], one, *thing[number + 1:]]) for one in changed_in_value(part)]
    return more


class LetsByTest(unittest.TestCase):
    def papers(self):
        gone = [("dead", "bob", 70), ("dead", "eve", 70)]
        full = code_of(spouse="wife", stand="child", classes=[("up", "heads", (0, 1)), ("child", "lines", (1, 4))])
        yield book_with(FAMILY + gone), full, None
        yield book_with(FAMILY), full, []
        yield book_with(FAMILY), code_of(spouse="wife", classes=[("grand", "lines", (1, 3))], alone=(1, 3)), ["mum"]
        yield book_with(FAMILY), code_of(), None

    def test_the_same_with_something_changed(self):
        count = 0
        for book, code, living in self.papers():
            right = paper(book, code, "dad", living)
            self.assertIs(lets_by(book, code, "dad", right, living), True)
            for wrong in changed_in_kind(right) + changed_in_value(right):
                self.assertIs(lets_by(book, code, "dad", wrong, living), False, wrong)
                count += 1
            for wrong in (right + [("chest", (1, 2))], right + [()], right + [None], right[::-1] if len(right) > 1 else [], right * 2):
                self.assertIs(lets_by(book, code, "dad", wrong, living), False, wrong)
        self.assertGreater(count, 200)

    def test_things_of_other_kinds(self):
        for book, code, living in self.papers():
            for thing in OTHER_KINDS + NUMBERS + TUPLES + TEXTS:
                self.assertIs(lets_by(book, code, "dad", thing, living), False)
                self.assertIs(lets_by(book, code, "dad", [thing], living), False)
            right = paper(book, code, "dad", living)
            for number, row in enumerate(right):
                for place, part in enumerate(row):
                    for thing in OTHER_KINDS:
                        wrong = list(right)
                        wrong[number] = row[:place] + (thing,) + row[place + 1:]
                        if thing is not part:
                            self.assertIs(lets_by(book, code, "dad", wrong, living), False)

    def test_things_that_go_deep_or_hold_themselves(self):
        book, code = book_with(FAMILY), code_of()
        deep = []
        for turn in range(5000):
            deep = [deep]
        ring = []
        ring.append(ring)
        for thing in (deep, ring, [("class", 0, ring, (1, 1))], [("class", 0, deep, deep)]):
            self.assertIs(lets_by(book, code, "dad", thing), False)

    def test_the_paper_of_another_sharing(self):
        book, code = book_with(FAMILY + [("dead", "bob", 90)]), code_of(stand="child")
        right = paper(book, code, "dad")
        self.assertIs(lets_by(book, code, "bob", right), False)
        self.assertIs(lets_by(book, code, "dad", right, ["ann"]), False)
        self.assertIs(lets_by(book, code_of(classes=[("grand", "lines", (0, 1))]), "dad", right), False)
        self.assertIs(lets_by(book, code_of(spouse="wife"), "dad", right), False)

    def test_a_paper_handed_in_stays(self):
        book, code = book_with(FAMILY), code_of(spouse="wife")
        right = paper(book, code, "dad")
        kept = copy.deepcopy(right)
        before = plain.all_of(book, [None])
        lets_by(book, code, "dad", right)
        self.assertEqual(right, kept)
        self.assertEqual(plain.all_of(book, [None]), before)

    def test_drawn_ones(self):
        for number, entries, book, told, code, name, living in cases(25):
            right = paper(book, code, name, living)
            wrong = changed_in_kind(right) + changed_in_value(right)
            for some in random.Random(number).sample(wrong, min(15, len(wrong))):
                self.assertIs(lets_by(book, code, name, some, living), False, (number, name, some))


if __name__ == "__main__":
    unittest.main()
