import random
import unittest
from fractions import Fraction

import plain
from drawn import book_with, refused
from estates import FAMILY, NOBODYS, cases, code_of
from heirbook.book import Book
from heirbook.levels import level, parts
from heirbook.sharing import shares
import shared_out
from shared_out import as_tuple, as_tuples


class LevelTest(unittest.TestCase):
    def assert_level(self, amount, gifts, reached, dues):
        kept = list(gifts)
        told = level(amount, gifts)
        self.assertEqual(told, (reached, dues))
        self.assertEqual((type(told), type(told[0]), type(told[1])), (tuple, tuple, list))
        self.assertEqual(gifts, kept)
        total = sum(Fraction(*due) for due in told[1])
        self.assertEqual(total, Fraction(*amount))

    def test_one_gift(self):
        self.assert_level((0, 1), [0], (0, 1), [(0, 1)])
        self.assert_level((0, 1), [7], (7, 1), [(0, 1)])
        self.assert_level((1, 2), [0], (1, 2), [(1, 2)])
        self.assert_level((1, 2), [7], (15, 2), [(1, 2)])

    def test_gifts_alike(self):
        self.assert_level((0, 1), [5, 5, 5], (5, 1), [(0, 1)] * 3)
        self.assert_level((6, 1), [5, 5, 5], (7, 1), [(2, 1)] * 3)
        self.assert_level((1, 1), [0, 0, 0], (1, 3), [(1, 3)] * 3)

    def test_gifts_unlike(self):
        self.assert_level((0, 1), [3, 1, 2], (1, 1), [(0, 1)] * 3)
        self.assert_level((1, 2), [3, 1, 2], (3, 2), [(0, 1), (1, 2), (0, 1)])
        self.assert_level((2, 1), [3, 1, 2], (5, 2), [(0, 1), (3, 2), (1, 2)])
        self.assert_level((12, 1), [3, 1, 2], (6, 1), [(3, 1), (5, 1), (4, 1)])
        self.assert_level((1, 1), [10, 0, 10 ** 18, 0], (1, 2), [(0, 1), (1, 2), (0, 1), (1, 2)])

    def test_amounts_that_reach_just_to_a_gift(self):
        self.assert_level((1, 1), [3, 1, 2], (2, 1), [(0, 1), (1, 1), (0, 1)])
        self.assert_level((3, 1), [3, 1, 2], (3, 1), [(0, 1), (2, 1), (1, 1)])
        self.assert_level((4, 1), [0, 2, 2, 5], (8, 3), [(8, 3), (2, 3), (2, 3), (0, 1)])
        self.assert_level((11, 1), [0, 2, 2, 5], (5, 1), [(5, 1), (3, 1), (3, 1), (0, 1)])

    def test_sixty_gifts(self):
        self.assert_level((0, 1), list(range(60)), (0, 1), [(0, 1)] * 60)
        self.assert_level((1770, 1), list(range(60)), (59, 1), [(59 - gift, 1) for gift in range(60)])
        self.assert_level((60, 7), [3] * 60, (22, 7), [(1, 7)] * 60)
        gifts = [number * 7 % 60 * 10 ** 18 for number in range(60)]
        reached = shared_out.level_of(Fraction(10 ** 20, 3), gifts)
        self.assert_level((10 ** 20, 3), gifts, as_tuple(reached), [as_tuple(due) for due in shared_out.lacks(reached, gifts)])

    def test_drawn_ones(self):
        chance = random.Random(1)
        for turn in range(3000):
            most = chance.choice([1, 3, 10, 1000])
            gifts = [chance.randrange(most + 1) for gift in range(chance.choice([1, 2, 3, 5, 12]))]
            amount = Fraction(chance.randrange(chance.choice([1, 5, 40, 3000])), chance.choice([1, 1, 2, 3, 7]))
            reached = shared_out.level_of(amount, gifts)
            self.assert_level(as_tuple(amount), gifts, as_tuple(reached),
                              [as_tuple(due) for due in shared_out.lacks(reached, gifts)])

    def test_lists_are_the_asker_s_own(self):
        gifts = [1, 2]
        told = level((1, 1), gifts)
        told[1].clear()
        self.assertEqual(level((1, 1), gifts), ((2, 1), [(1, 1), (0, 1)]))


LINES = code_of(spouse="wife", stand="child", classes=[("child", "lines", (1, 4))], ahead=True)
GIFTS = [("given", "dad", "ann", 30, 40), ("given", "dad", "ann", 10, 41), ("given", "dad", "bob", 10, 80)]


class PartsTest(unittest.TestCase):
    def assert_parts(self, wanted, code, entries=(), amount=(120, 1), living=None):
        told = parts(book_with(FAMILY + list(entries)), code, "dad", amount, living)
        self.assertEqual(list(told.items()), list(wanted.items()))
        self.assertEqual(sum(Fraction(*part) for part in told.values()), Fraction(*amount))

    def test_without_ahead_each_share_times_the_amount(self):
        code = code_of(spouse="wife", stand="child", classes=[("child", "lines", (1, 4))])
        wanted = {"ann": (30, 1), "bob": (30, 1), "cid": (30, 1), "mum": (15, 1), "una": (15, 1)}
        self.assert_parts(wanted, code)
        self.assert_parts(wanted, code, GIFTS)
        self.assert_parts({"ann": (1, 8), "bob": (1, 8), "cid": (1, 8), "mum": (1, 16), "una": (1, 16)}, code, GIFTS, (1, 2))

    def test_gifts_below_at_and_above_the_level(self):
        self.assert_parts({"ann": (30, 1), "bob": (30, 1), "cid": (30, 1), "mum": (15, 1), "una": (15, 1)}, LINES)
        # 90 for gifts of 40, 10 and 0: the level is 140 / 3.
        self.assert_parts({"ann": (20, 3), "bob": (110, 3), "cid": (140, 3), "mum": (15, 1), "una": (15, 1)}, LINES, GIFTS)
        # 30 for gifts of 40, 10 and 0: the level is 20, and ann is above it.
        self.assert_parts({"bob": (10, 1), "cid": (20, 1), "mum": (5, 1), "una": (5, 1)}, LINES, GIFTS, (40, 1))
        # 70 reach just to the gift of 40.
        self.assert_parts({"bob": (30, 1), "cid": (40, 1), "mum": (35, 3), "una": (35, 3)}, LINES, GIFTS, (280, 3))
        # 10 reach just to the gift of 10.
        self.assert_parts({"cid": (10, 1), "mum": (5, 3), "una": (5, 3)}, LINES, GIFTS, (40, 3))

    def test_by_heads_gifts_are_not_looked_at(self):
        code = code_of(spouse="wife", classes=[("child", "heads", (1, 4))], ahead=True)
        self.assert_parts({"ann": (30, 1), "bob": (30, 1), "cid": (30, 1), "mum": (15, 1), "una": (15, 1)}, code, GIFTS)
        code = code_of(classes=[("up", "lines", (0, 1)), ("child", "heads", (0, 1)), ("child", "lines", (0, 1))], ahead=True)
        self.assert_parts({"ann": (40, 1), "bob": (40, 1), "cid": (40, 1)}, code, GIFTS)

    def test_gifts_to_one_who_does_not_live(self):
        gone = GIFTS + [("dead", "bob", 80), ("given", "dad", "eve", 1000, 60)]
        wanted = {"ann": (20, 3), "cid": (140, 3), "eve": (55, 3), "fay": (55, 3), "mum": (15, 1), "una": (15, 1)}
        self.assert_parts(wanted, LINES, gone)
        self.assert_parts({"cid": (10, 1), "mum": (5, 3), "una": (5, 3)}, LINES, gone, (40, 3))

    def test_gifts_of_others_and_of_later_days(self):
        more = [("given", "mum", "cid", 500, 60), ("given", "cid", "dad", 500, 60), ("given", "dad", "cid", 500, 81),
                ("given", "dad", "mum", 500, 60), ("given", "ann", "cid", 9, 70)]
        wanted = {"ann": (20, 3), "bob": (110, 3), "cid": (140, 3), "mum": (15, 1), "una": (15, 1)}
        self.assert_parts(wanted, LINES, GIFTS + more)

    def test_no_class_takes(self):
        for amount in ((120, 1), (1, 7), (0, 1)):
            whole = {"": amount} if amount[0] else {}
            self.assert_parts(whole, LINES, GIFTS, amount, [])
        self.assert_parts({"mum": (60, 1), "una": (60, 1)}, LINES, GIFTS, living=["mum", "una"])

    def test_nothing_is_left(self):
        for code in (LINES, code_of(), code_of(spouse="wife")):
            self.assert_parts({}, code, GIFTS, (0, 1))

    def test_spouses_take_all(self):
        code = code_of(spouse="wife", classes=[("child", "lines", (1, 1))], ahead=True)
        self.assert_parts({"mum": (60, 1), "una": (60, 1)}, code, GIFTS)

    def test_drawn_ones(self):
        brought = 0
        drawn = list(cases(60, ahead=False)) + list(cases(200, ahead=True))
        for number, entries, book, told, code, name, living in drawn:
            chance = random.Random(number)
            for amount in (Fraction(0), Fraction(1), Fraction(chance.randrange(60), chance.randrange(1, 9))):
                wanted = shared_out.parts(entries, told, name, amount, living)
                found = parts(book, code, name, as_tuple(amount), living)
                self.assertEqual(list(found.items()), list(as_tuples(wanted).items()), (number, name, amount))
                self.assertEqual(sum(wanted.values()), amount)
                plain_ones = {one: Fraction(*part) * amount for one, part in shares(book, code, name, living).items()}
                brought += amount > 0 and plain_ones != wanted
        self.assertGreater(brought, 60)

    def test_refusals(self):
        for book in (book_with(FAMILY), Book()):
            for living in (None, [], ["mum"]):
                for amount in ((0, 1), (5, 2)):
                    for name in NOBODYS:
                        self.assertEqual(refused(lambda: parts(book, LINES, name, amount, living)), "NoPerson")
        for living in (None, [], ["mum"]):
            for amount in ((0, 1), (5, 2)):
                self.assertEqual(refused(lambda: parts(book_with(FAMILY), LINES, "mum", amount, living)), "Alive")

    def test_what_is_handed_in_stays_and_what_is_told_is_the_asker_s_own(self):
        book, living = book_with(FAMILY + GIFTS), ["ann", "cid", "zed", "ann"]
        before = plain.all_of(book, [None])
        told = parts(book, LINES, "dad", (10, 1), living)
        kept = dict(told)
        told.clear()
        self.assertEqual(parts(book, LINES, "dad", (10, 1), living), kept)
        self.assertEqual(living, ["ann", "cid", "zed", "ann"])
        self.assertEqual(plain.all_of(book, [None]), before)


if __name__ == "__main__":
    unittest.main()
