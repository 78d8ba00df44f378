import random
import unittest

import plain
from drawn import book_with, drawn_entries, drawn_way, drawn_ways, short_ways
from folded import Folded, is_within
from heirbook.book import Book
from heirbook.least import alike, least, parted, within
from heirbook.trees import book_of
from heirbook.walks import reach

NEVERS = ["F she", "F m", "he she", "M f", "f she F m", "f F m", "she f F", "f f F F she", "he she " * 12]

# Pairs of ways that are alike, the least one first.
ALIKE = [
    ("", ""), ("F", "F he"), ("M", "M she she"), ("F", "F f F"), ("M", "M m M m M"),
    ("f", "he f"), ("f", "f F f"), ("f F", "f F f F"), ("f F", "he f F he"), ("f F", "f F he f F"), ("F f", "F f F f"),
    ("F f", "F he f F f F he f"), ("m f F M", "m f F M m he M m M"), ("f f F F", "f F f f F F f he F"),
    ("f f", "f f F F f f"), ("f f F", "f f F F f f F"), ("he F", "he F f he F"), ("he F", "he he F he f F f he F"),
    ("f he F f she F", "f she F f he F"), ("f f F F f m M F", "f m M F f f F F f F"), ("he", "he he he"),
    ("f f he F f she F F", "f f she F f he F F"), ("f he", "f F f he"), ("F F", "F f F F f f F f F F"),
    ("f f F F f he M", "f f F F f he M m M"), ("T f F S", "T he f F f F S"), ("S S", "S S"), ("T t", "T t"),
    ("f F", "f F " * 12), ("m M", "m M " * 12), ("F f", "F f " * 12), ("f f F F", "f f F F " * 6), ("she", "she " * 24),
    ("f m f F M F", "f m f F M F f m M F f F f she F f F f m he M F"), ("f m M F S", "f m M m M F S"),
    ("f she F S", "f she F f F f she F S"), ("F f he F M m she M", "F f F f he F M m M m she M m she M"),
]

# Pairs of ways of which neither is alike with the other; the word tells which of them lies within which.
NOT_ALIKE = [
    ("f F", "", "first"), ("F f", "", "none"), ("M m", "", "none"), ("T t", "", "none"), ("t T", "", "none"),
    ("S S", "", "none"), ("F", "M", "none"), ("F", "he F", "second"), ("he", "", "first"), ("he", "she", "none"),
    ("F f", "F f he", "second"), ("F f", "M m", "none"), ("S", "S S S", "first"), ("T t T", "T", "second"),
    ("t T", "t T t T", "first"), ("f he F", "f F", "first"), ("f he F f she F", "f he F", "first"),
    ("f he F f", "f he", "second"), ("f f F F f", "f f", "none"), ("F f he F", "he F", "second"),
    ("f F", "m M", "none"), ("f F", "he", "first"), ("f F", "t T", "none"), ("f", "t", "none"), ("S F", "F S", "none"),
    ("S f F", "S he", "first"), ("f S f F", "f S", "first"), ("T T", "T", "none"), ("F m", "S", "first"),
    ("F she", "", "first"), ("F f F f", "F f he F f", "second"), ("f m M F", "f she F", "first"),
]


def way_of(text):
    return tuple(text.split())


def order(way):
    return (len(way), way)


class FoldedOnce:
    """Folds each way once, for many questions."""

    def __init__(self):
        self.known = {}

    def of(self, way):
        if way not in self.known:
            folded = Folded(way)
            self.known[way] = (folded, folded.table())
        return self.known[way]

    def never(self, way):
        return self.of(way)[0].never

    def within(self, one, other):
        folded, table = self.of(one)
        return folded.never or folded.end in plain.reach(table, other, folded.begin)

    def alike(self, one, other):
        return self.within(one, other) and self.within(other, one)


class WithinTest(unittest.TestCase):
    def test_each_way_within_itself(self):
        for way in short_ways(2) + drawn_ways(1, 150):
            self.assertIs(within(way, way), True)
            self.assertIs(alike(way, way), True)

    def test_nevers(self):
        others = short_ways(2) + drawn_ways(2, 40)
        for text in NEVERS:
            for way in others:
                self.assertIs(within(way_of(text), way), True)
                never = Folded(way).never
                self.assertIs(within(way, way_of(text)), never)
                self.assertIs(alike(way, way_of(text)), never)
                self.assertIs(alike(way_of(text), way), never)

    def test_alike_ones(self):
        for one, other in ALIKE:
            self.assertIs(within(way_of(one), way_of(other)), True, (one, other))
            self.assertIs(within(way_of(other), way_of(one)), True, (one, other))
            self.assertIs(alike(way_of(one), way_of(other)), True, (one, other))
            self.assertIs(alike(way_of(other), way_of(one)), True, (one, other))

    def test_others(self):
        for one, other, which in NOT_ALIKE:
            self.assertIs(within(way_of(one), way_of(other)), which == "first", (one, other))
            self.assertIs(within(way_of(other), way_of(one)), which == "second", (one, other))
            self.assertIs(alike(way_of(one), way_of(other)), False, (one, other))
            self.assertIs(alike(way_of(other), way_of(one)), False, (one, other))

    def test_all_short_pairs(self):
        once = FoldedOnce()
        ways = short_ways(2)
        for one in ways:
            for other in ways:
                self.assertIs(within(one, other), once.within(one, other), (one, other))
                self.assertIs(alike(one, other), once.alike(one, other), (one, other))

    def test_drawn_pairs(self):
        once = FoldedOnce()
        chance = random.Random(3)
        ways = [way for way in drawn_ways(4, 900, 6) if not once.never(way)]
        told = []
        for turn in range(4000):
            one, other = chance.choice(ways), chance.choice(ways)
            told.append(within(one, other))
            self.assertIs(told[-1], once.within(one, other), (one, other))
        self.assertGreater(told.count(True), 50)

    def test_edited_pairs(self):
        count = 0
        for one, other in edited_pairs(5, 120):
            told = within(one, other)
            count += told
            self.assertIs(told, is_within(one, other), (one, other))
            self.assertIs(alike(one, other), is_within(one, other) and is_within(other, one), (one, other))
        self.assertGreater(count, 100)

    def test_in_drawn_books(self):
        tables = [plain.steps_of(drawn_entries(number, people=9, more=40)) for number in range(4)]
        for one, other in list(edited_pairs(6, 30)) + [(one, other) for one in short_ways(1) for other in short_ways(2)]:
            if within(one, other):
                for table in tables:
                    for name in {key[1] for key in table}:
                        self.assertLessEqual(set(plain.reach(table, one, name)), set(plain.reach(table, other, name)))
            else:
                book, begin, end = book_of(one)
                self.assertIn(end, reach(book, one, begin))
                self.assertNotIn(end, reach(book, other, begin))

    def test_24_steps(self):
        self.assertIs(within(("S",) * 24, ("S",) * 24), True)
        self.assertIs(within(("S",) * 22, ("S",) * 24), True)
        self.assertIs(within(("S",) * 24, ("S",) * 22), False)
        self.assertIs(within(("f",) * 12 + ("F",) * 12, ("f", "F") * 12), True)
        self.assertIs(within(("f", "F") * 12, ("f",) * 12 + ("F",) * 12), False)
        self.assertIs(alike(("F", "f") * 12, ("F", "f")), True)
        self.assertIs(alike(("T", "t") * 12, ("T", "t")), False)


def edited_pairs(number, count):
    """Ways, and what comes of them by putting in or leaving out some steps."""
    chance = random.Random(number)
    for turn in range(count):
        way = drawn_way(chance, chance.randrange(1, 11))
        for edit in range(12):
            at, end = sorted([chance.randrange(len(way) + 1), chance.randrange(len(way) + 1)])
            more = chance.choice([("f", "F"), ("m", "M"), ("he",), ("she",), ("f", "he", "F"), ("f", "f", "F", "F"),
                                  ("m", "she", "M"), way[at:end], way[at:end] + way[at:end], ()])
            other = way[:at] + more + way[chance.choice([at, end]):]
            if len(other) <= 24:
                yield way, other
                yield other, way


class PartedTest(unittest.TestCase):
    def assert_parts(self, one, other):
        told = parted(one, other)
        self.assertIs(type(told), tuple)
        book, begin, end = told
        self.assertIs(type(book), Book)
        self.assertIn(begin, book.people())
        self.assertIn(end, book.people())
        joined = [end in reach(book, way, begin) for way in (one, other)]
        self.assertEqual(sorted(joined), [False, True], (one, other))
        table = plain.steps_of(book.entries())
        self.assertEqual([end in plain.reach(table, way, begin) for way in (one, other)], joined)

    def test_alike_ones(self):
        for one, other in ALIKE:
            self.assertIsNone(parted(way_of(one), way_of(other)))
            self.assertIsNone(parted(way_of(other), way_of(one)))

    def test_others(self):
        for one, other, which in NOT_ALIKE:
            self.assert_parts(way_of(one), way_of(other))
            self.assert_parts(way_of(other), way_of(one))

    def test_nevers(self):
        for text in NEVERS:
            for more in NEVERS:
                self.assertIsNone(parted(way_of(text), way_of(more)))
            for other in ("", "F", "f F", "S S", "he", "T " * 24):
                self.assert_parts(way_of(text), way_of(other))
                self.assert_parts(way_of(other), way_of(text))

    def test_short_and_edited_pairs(self):
        once = FoldedOnce()
        short = [(one, other) for one in short_ways(1) for other in short_ways(2)]
        for one, other in short + list(edited_pairs(7, 40)):
            if once.alike(one, other):
                self.assertIsNone(parted(one, other), (one, other))
            else:
                self.assert_parts(one, other)
                self.assert_parts(other, one)

    def test_the_book_is_the_asker_s_own(self):
        for one, other in ((("F", "f"), ()), (("S",), ("S", "S", "S"))):
            book, begin, end = parted(one, other)
            before = book.entries()
            book.put(("dead", begin, max(plain.day_of(entry) for entry in before) + 1))
            again = parted(one, other)[0]
            self.assertNotIn("dead", [entry[0] for entry in again.entries()])
            self.assertEqual(len(book.entries()), len(before) + 1)
            self.assert_parts(one, other)


class LeastTest(unittest.TestCase):
    def assert_least(self, way, wanted):
        told = least(way)
        if wanted is not None:
            self.assertIs(type(told), tuple)
        self.assertEqual(told, wanted, way)

    def test_nevers(self):
        for text in NEVERS:
            self.assert_least(way_of(text), None)

    def test_pairs(self):
        for wanted, text in ALIKE:
            self.assert_least(way_of(text), way_of(wanted))
            self.assert_least(way_of(wanted), way_of(wanted))

    def test_single_steps_and_none(self):
        for way in short_ways(1):
            self.assert_least(way, way)

    def test_ways_that_are_not_alike_have_other_least_ways(self):
        for one, other, which in NOT_ALIKE:
            self.assertNotEqual(least(way_of(one)), least(way_of(other)), (one, other))

    def assert_all(self, ways):
        """Of all these ways, the fewest steps first, the first that is alike is the least way of each."""
        once = FoldedOnce()
        groups = {}
        for way, mark in zip(ways, marks_of(ways)):
            if once.never(way):
                self.assert_least(way, None)
                continue
            firsts = groups.setdefault(mark, [])
            found = [first for first in firsts if once.alike(first, way)]
            if not found:
                firsts.append(way)
                found = [way]
            self.assert_least(way, found[0])

    def test_all_ways_of_four_steps(self):
        self.assert_all(short_ways(4))

    def test_all_longer_ways_by_some_steps(self):
        for steps, most in ((("f", "F", "he", "she"), 6), (("f", "F", "m", "M"), 6), (("f", "F", "he"), 7), (("f", "F"), 10),
                            (("F", "M", "f", "he", "m"), 5), (("F", "f", "m", "M", "S"), 5)):
            self.assert_all([way for length in range(most + 1) for way in all_ways(steps, length)])

    def test_edited_ones(self):
        count = 0
        for one, other in edited_pairs(8, 200):
            same = is_within(one, other) and is_within(other, one)
            count += same
            self.assertIs(least(one) == least(other), same, (one, other))
        self.assertGreater(count, 400)

    def test_it_is_alike_no_longer_and_its_own_least(self):
        count = 0
        for way in living_ways(9, 200) + living_ways(10, 100, ["f", "F", "m", "M", "he", "she"]):
            told = least(way)
            self.assertTrue(is_within(told, way) and is_within(way, told), way)
            self.assertLessEqual(order(told), order(way))
            self.assertEqual(least(told), told)
            count += len(told) < len(way)
        self.assertGreater(count, 100)

    def test_24_steps(self):
        for wanted, text in (
                ("f F", "f F " * 12), ("T " * 24, "T " * 24), ("S " * 24, "S " * 24), ("t T " * 12, "t T " * 12),
                ("f " * 12 + "F " * 12, "f " * 12 + "F " * 12), ("f he F f she F", "f she F f he F " * 4),
                ("f f he F f she F F", "f f she F F f f he F F f f he F f she F F f he F f F"),
                ("f f F F f m M F", "f m M F f f F F " * 3), ("F M T S f m t S " * 3, "F M T S f m t S " * 3)):
            self.assert_least(way_of(text), way_of(wanted))

    def test_loops_in_another_order(self):
        loops = ["f he F", "f she F", "f f she F F", "f m M F", "f f f F F F", "f F"]
        chance = random.Random(11)
        for turn in range(30):
            some = chance.sample(loops, len(loops))
            self.assert_least(way_of(" ".join(some)), way_of("f f f F F F f f she F F f m M F"))

    def test_loops_of_one_beginning(self):
        for parts in (["f f F F", "f f he F F", "f f she F F"], ["m f he F M", "m f she F M", "m m M M"],
                      ["f f F F", "f m M F", "f she F", "f he F"]):
            chance = random.Random(12)
            told = {least(way_of(" ".join(chance.sample(parts, len(parts))))) for turn in range(20)}
            self.assertEqual(len(told), 1)


def all_ways(steps, length):
    ways = [()]
    for turn in range(length):
        ways = [way + (step,) for way in ways for step in sorted(steps)]
    return ways


def wild_table(chance, count):
    """Where steps lead among people of whom each has a father and a mother, whenever they were born.

    Ways that are alike lead to the same here too: days play no part in why they are alike.
    """
    people = list(range(count))
    table = {(step, name): set() for step in plain.STEPS for name in people}
    for name in people:
        if name % 5:
            table["he" if name % 2 else "she", name].add(name)
        links = {"F": [1, 3, 7], "M": [2, 4, 6], "T": people, "S": people}
        for letter in links:
            other = chance.choice(links[letter])
            table[letter, name].add(other)
            table[letter if letter == "S" else letter.lower(), other].add(name)
    return table


def marks_of(ways):
    """For each way where it leads in some tables: the same for ways that are alike, so that few others are compared."""
    chance = random.Random(14)
    begins = [(table, name) for table in [wild_table(chance, 9) for turn in range(8)] for name in range(9)]
    known = {(): [frozenset([name]) for table, name in begins]}
    for way in ways:
        if way not in known:
            known[way] = [frozenset([end for begin in reached for end in table[way[-1], begin]])
                          for (table, name), reached in zip(begins, known[way[:-1]])]
    return [tuple(known[way]) for way in ways]


def living_ways(number, count, steps=plain.STEPS, most=24):
    """Ways by these steps that are no nevers."""
    chance = random.Random(number)
    ways = []
    for turn in range(count):
        way = ()
        while len(way) < turn * most // count + 1:
            back = {"f": ["F"] * 9, "m": ["M"] * 9}.get(way[-1] if way else "", [])
            more = way + (chance.choice(list(steps) + [step for step in back if step in steps]),)
            way = way if Folded(more).never else more
        ways.append(way)
    return ways


if __name__ == "__main__":
    unittest.main()
