import unittest

import plain
from drawn import book_with, drawn_entries, drawn_ways, short_ways
from folded import Folded
from heirbook.book import Book
from heirbook.trees import book_of
from heirbook.walks import reach, walk

NEVERS = ["F she", "M he", "F m", "M f", "he she", "she he", "f she F m", "she f", "he m", "F S F f M m m f F she", "f f m M F she",
          "F he she", "f F m", "m M f", "t he T S m M S S he f she m M he", "she he " * 12, "f F " * 11 + "m M", "f f F F she",
          "f he F f F she", "F f F m", "f m M f"]
NO_NEVERS = ["", "he", "she", "f F", "F f", "S S", "T t", "t T", "S she S he", "F M F M", "f m f m", "he f F f he F he",
             "M she m she M", "F f M m T t S S", "he S she S he", "f M m F f F", "f he M m she F", "m f F M m f m M"]


def ways_to_try():
    return [tuple(text.split()) for text in NO_NEVERS + NEVERS] + short_ways(3) + drawn_ways(3, 400) + drawn_ways(4, 200, 7)


class BookOfTest(unittest.TestCase):
    def persons_at(self, table, way, one, other):
        """For each number of steps those at whom some walk by the way from one to other is then."""
        ahead = plain.layers(table, way, one)
        behind = [{other}]
        for step in reversed(way):
            behind.append({name for name in {key[1] for key in table} if behind[-1] & set(table[step, name])})
        return [some & others for some, others in zip(ahead, reversed(behind))]

    def test_nevers(self):
        for text in NEVERS:
            self.assertIsNone(book_of(tuple(text.split())), text)

    def test_none_where_it_is_a_never_and_nowhere_else(self):
        told = [book_of(way) is None for way in ways_to_try()]
        self.assertEqual(told, [Folded(way).never for way in ways_to_try()])
        self.assertIn(True, told)
        self.assertIn(False, told)
        for text in NO_NEVERS:
            self.assertIsNotNone(book_of(tuple(text.split())), text)

    def test_a_never_leads_nowhere_in_drawn_books(self):
        for number in range(5):
            entries = drawn_entries(number)
            table = plain.steps_of(entries)
            for way in ways_to_try():
                if book_of(way) is None:
                    for name in plain.births(entries):
                        self.assertEqual(plain.reach(table, way, name), [], way)

    def test_the_way_leads_there(self):
        for way in ways_to_try():
            told = book_of(way)
            if told is not None:
                self.assertIs(type(told), tuple)
                book, one, other = told
                self.assertIs(type(book), Book)
                self.assertIn(other, reach(book, way, one))
                table = plain.steps_of(book.entries())
                self.assertTrue(plain.is_walk(table, way, walk(book, way, one, other)), way)

    def test_people_unions_and_takings_in(self):
        for way in ways_to_try():
            told = book_of(way)
            if told is not None:
                book = told[0]
                self.assertLessEqual(len(book.people()), len(way) + 1)
                kinds = [entry[0] for entry in book.entries()]
                self.assertLessEqual(kinds.count("union"), way.count("S"), way)
                self.assertLessEqual(kinds.count("taken"), way.count("T") + way.count("t"), way)
                self.assertEqual(set(kinds) - {"born", "union", "taken"}, set(), way)

    def test_each_union_and_taking_in_is_one_the_way_crosses(self):
        for way in ways_to_try():
            told = book_of(way)
            if told is not None:
                book, one, other = told
                table = plain.steps_of(book.entries())
                at = self.persons_at(table, way, one, other)
                crossed = {frozenset([begin, end, step.upper()]) for number, step in enumerate(way)
                           for begin in at[number] for end in at[number + 1] if step in "TtS" and end in table[step, begin]}
                asked = {frozenset([entry[1], entry[2], "S" if entry[0] == "union" else "T"])
                         for entry in book.entries() if entry[0] != "born"}
                self.assertEqual(asked - crossed, set(), way)

    def test_only_sorts_that_are_asked_for(self):
        for way in ways_to_try():
            told = book_of(way)
            if told is not None:
                book, one, other = told
                known = plain.births(book.entries())
                parents = {name for birth in known.values() for name in birth[4:] if name}
                at = self.persons_at(plain.steps_of(book.entries()), way, one, other)
                tested = {name for number, step in enumerate(way) if step in plain.TESTS for name in at[number]}
                told_sorts = {name for name in known if known[name][2] != ""}
                self.assertEqual(told_sorts - parents - tested, set(), way)

    def test_the_small_ones(self):
        book, one, other = book_of(())
        self.assertEqual((len(book.people()), one), (1, other))
        self.assertEqual(book.sort_of(one), "")
        book, one, other = book_of(("f", "F"))
        self.assertEqual(one, other)
        self.assertEqual(book.sort_of(one), "he")
        for text in ("F f", "S S", "T t", "t T", "S T", "M m"):
            book, one, other = book_of(tuple(text.split()))
            self.assertNotEqual(one, other, text)
            self.assertEqual(len(book.people()), 3, text)
        for text in ("T", "t", "S"):
            book, one, other = book_of((text,))
            self.assertEqual([book.sort_of(one), book.sort_of(other)], ["", ""])
        for text, sorts in (("F", ["", "he"]), ("M", ["", "she"]), ("f", ["he", ""]), ("m", ["she", ""])):
            book, one, other = book_of((text,))
            self.assertEqual([book.sort_of(one), book.sort_of(other)], sorts)

    def test_24_steps_to_24_others(self):
        for step in plain.LETTERS:
            book, one, other = book_of((step,) * 24)
            self.assertEqual(len(book.people()), 25)
            self.assertIn(other, reach(book, (step,) * 24, one))
            self.assertNotIn(other, reach(book, (step,) * 23, one))
        book, one, other = book_of(("he",) * 24)
        self.assertEqual(one, other)
        self.assertEqual(book.sort_of(one), "he")

    def test_each_way_that_leads_there_has_this_one_within_it(self):
        others = short_ways(2) + drawn_ways(8, 30, 6)
        for way in [tuple(text.split()) for text in NO_NEVERS] + short_ways(2) + drawn_ways(6, 60, 6):
            told = book_of(way)
            folded = Folded(way)
            if told is not None:
                book, one, other = told
                table, named = folded.table(), plain.steps_of(book.entries())
                for more in others + [way]:
                    wanted = folded.end in plain.reach(table, more, folded.begin)
                    self.assertEqual(other in plain.reach(named, more, one), wanted, (way, more))
                    self.assertEqual(other in reach(book, more, one), wanted, (way, more))

    def test_who_leads_there_is_reached_in_every_book(self):
        others = short_ways(2)
        drawn = [plain.steps_of(drawn_entries(number)) for number in range(3)]
        for way in drawn_ways(9, 150, 4):
            told = book_of(way)
            if told is not None:
                for more in [more for more in others if told[2] in reach(told[0], more, told[1])]:
                    for table in drawn:
                        for name in {key[1] for key in table}:
                            self.assertLessEqual(set(plain.reach(table, way, name)), set(plain.reach(table, more, name)))

    def test_the_book_is_the_asker_s_own(self):
        for text in ("", "f F", "S T"):
            way = tuple(text.split())
            book, one, other = book_of(way)
            before = book.entries()
            day = max(plain.day_of(entry) for entry in before) + 1
            book.put(("dead", one, day))
            book.put(("born", "zzzzzzzz", "", day, "", ""))
            again = book_of(way)[0]
            self.assertEqual(again.entries(), before)
            self.assertEqual(len(book.entries()), len(before) + 2)

    def test_a_book_like_any_other(self):
        for way in drawn_ways(10, 40):
            told = book_of(way)
            if told is not None:
                entries = told[0].entries()
                entries = sorted(entries, key=lambda entry: (entry[0] != "born", plain.day_of(entry)))
                self.assertEqual(book_with(entries).entries(), told[0].entries())


if __name__ == "__main__":
    unittest.main()
