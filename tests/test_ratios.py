import math
import unittest
from fractions import Fraction

from heirbook import errors
from heirbook.ratios import is_whole, less, minus, over, plus, ratio, times
from samples import NUMBERS, OTHER_KINDS, TEXTS, TUPLES

OTHER_REFUSALS = (
    errors.NoEntry, errors.Full, errors.NoPerson, errors.Twice, errors.NoFit, errors.NoWay, errors.NoTongue,
    errors.NoWord, errors.Marked, errors.TooMany, errors.Barred, errors.NoCode, errors.Alive, errors.Unsure,
    errors.NoRow,
)

GREAT = 10 ** 59 + 7
GREATER = 987654321 * 10 ** 51 + 123456789
SMALL = [(0, 1), (1, 1), (-1, 1), (1, 2), (-1, 2), (2, 3), (-2, 3), (3, 4), (7, 1), (-7, 5), (5, 6), (-11, 12)]
LARGE = [
    (GREAT, 1), (-GREAT, 1), (1, GREAT), (-1, GREAT), (GREAT + 1, GREAT), (GREAT - 1, GREAT), (-GREAT - 1, GREAT),
    (GREATER // 3, 10 ** 59 + 3), (3 ** 120, 2 ** 190), (-5 ** 80, 7 ** 70), (10 ** 199, 10 ** 199 + 1),
]
SAMPLES = SMALL + [(Fraction(*pair).numerator, Fraction(*pair).denominator) for pair in LARGE]


class RatioCase(unittest.TestCase):
    def assert_fraction(self, told, wanted):
        self.assertIs(type(told), tuple)
        self.assertEqual([type(part) for part in told], [int, int])
        self.assertEqual(told, (wanted.numerator, wanted.denominator))
        self.assertGreaterEqual(told[1], 1)
        self.assertEqual(math.gcd(told[0], told[1]), 1)

    def assert_no_number(self, asked):
        with self.assertRaises(errors.NoNumber) as taken:
            asked()
        self.assertIsInstance(taken.exception, errors.HeirError)
        self.assertIsInstance(taken.exception, ValueError)
        self.assertNotIsInstance(taken.exception, OTHER_REFUSALS)


class WholeTest(unittest.TestCase):
    def test_whole_numbers(self):
        for number in NUMBERS + [10 ** 399, -10 ** 399]:
            self.assertIs(is_whole(number), True)

    def test_truths_are_none(self):
        self.assertIs(is_whole(True), False)
        self.assertIs(is_whole(False), False)

    def test_other_kinds_are_none(self):
        for thing in OTHER_KINDS + TEXTS + TUPLES:
            self.assertIs(is_whole(thing), False)


class MadeTest(RatioCase):
    def test_plain_ones(self):
        self.assertEqual(ratio(1, 2), (1, 2))
        self.assertEqual(ratio(6, 4), (3, 2))
        self.assertEqual(ratio(-6, 4), (-3, 2))
        self.assertEqual(ratio(6, -4), (-3, 2))
        self.assertEqual(ratio(-6, -4), (3, 2))
        self.assertEqual(ratio(5, 1), (5, 1))
        self.assertEqual(ratio(5, -1), (-5, 1))
        self.assertEqual(ratio(8, 8), (1, 1))

    def test_top_nought_is_one_fraction(self):
        for bottom in (1, -1, 2, -2, 12, -12, GREAT, -GREAT):
            self.assert_fraction(ratio(0, bottom), Fraction(0))
        self.assertEqual(ratio(0, -5), (0, 1))

    def test_all_small_pairs(self):
        for top in range(-24, 25):
            for bottom in range(-24, 25):
                if bottom != 0:
                    self.assert_fraction(ratio(top, bottom), Fraction(top, bottom))

    def test_great_numbers(self):
        self.assertEqual(len(str(GREAT)), 60)
        self.assertEqual(len(str(GREATER)), 60)
        for top in (GREAT, -GREAT, GREATER, -GREATER, GREAT * GREATER, 1, -1):
            for bottom in (GREAT, -GREAT, GREATER, -GREATER, GREAT * 6, 1, -1):
                self.assert_fraction(ratio(top, bottom), Fraction(top, bottom))

    def test_great_common_divisors(self):
        self.assertEqual(ratio(3 * GREAT, 2 * GREAT), (3, 2))
        self.assertEqual(ratio(-3 * GREAT, 2 * GREAT), (-3, 2))
        self.assertEqual(ratio(2 * GREAT, -6 * GREAT), (-1, 3))
        self.assertEqual(ratio(GREAT, GREAT), (1, 1))

    def test_the_bounds_of_what_is_promised(self):
        one, other = 1, 1
        while len(str(one)) < 400:
            one, other = one + other, one
        self.assert_fraction(ratio(one, other), Fraction(one, other))
        self.assert_fraction(ratio(-other, one), Fraction(-other, one))
        self.assert_fraction(ratio(10 ** 399, 10 ** 398), Fraction(10))

    def test_bottom_nought_is_refused(self):
        for top in NUMBERS:
            self.assert_no_number(lambda: ratio(top, 0))

    def test_truths_are_refused_in_either_place(self):
        for truth in (True, False):
            for other in (1, 0, -3, GREAT, truth):
                self.assert_no_number(lambda: ratio(truth, other))
                self.assert_no_number(lambda: ratio(other, truth))

    def test_other_kinds_are_refused_in_either_place(self):
        for thing in OTHER_KINDS + TEXTS + TUPLES:
            for other in (1, 0, -3, None, thing):
                self.assert_no_number(lambda: ratio(thing, other))
                self.assert_no_number(lambda: ratio(other, thing))

    def test_a_refusal_changes_nothing(self):
        self.assert_no_number(lambda: ratio(1, 0))
        self.assertEqual(ratio(1, 3), (1, 3))
        self.assert_no_number(lambda: ratio(1, 0))


class ReckonedTest(RatioCase):
    def test_plain_ones(self):
        self.assertEqual(plus((1, 2), (1, 3)), (5, 6))
        self.assertEqual(minus((1, 2), (1, 3)), (1, 6))
        self.assertEqual(minus((1, 3), (1, 2)), (-1, 6))
        self.assertEqual(times((2, 3), (3, 4)), (1, 2))
        self.assertEqual(over((1, 2), (3, 4)), (2, 3))
        self.assertEqual(over((1, 2), (-3, 4)), (-2, 3))
        self.assertEqual(over((0, 1), (-3, 4)), (0, 1))

    def test_all_pairs(self):
        for one in SAMPLES:
            for other in SAMPLES:
                left, right = Fraction(*one), Fraction(*other)
                self.assert_fraction(plus(one, other), left + right)
                self.assert_fraction(minus(one, other), left - right)
                self.assert_fraction(times(one, other), left * right)
                if other != (0, 1):
                    self.assert_fraction(over(one, other), left / right)

    def test_one_and_itself(self):
        for one in SAMPLES:
            self.assertEqual(minus(one, one), (0, 1))
            self.assert_fraction(plus(one, one), 2 * Fraction(*one))
            self.assert_fraction(times(one, one), Fraction(*one) ** 2)
            if one != (0, 1):
                self.assertEqual(over(one, one), (1, 1))

    def test_a_quotient_by_nought_is_refused(self):
        for one in SAMPLES:
            self.assert_no_number(lambda: over(one, (0, 1)))

    def test_parts_at_the_bound(self):
        one, other = (10 ** 199 - 1, 10 ** 198 + 1), (-1, 10 ** 199 - 3)
        one, other = ratio(*one), ratio(*other)
        self.assert_fraction(plus(one, other), Fraction(*one) + Fraction(*other))
        self.assert_fraction(over(one, other), Fraction(*one) / Fraction(*other))


class LessTest(unittest.TestCase):
    def test_plain_ones(self):
        self.assertIs(less((1, 3), (1, 2)), True)
        self.assertIs(less((1, 2), (1, 3)), False)
        self.assertIs(less((-1, 2), (-1, 3)), True)
        self.assertIs(less((-1, 3), (-1, 2)), False)
        self.assertIs(less((-1, 2), (0, 1)), True)
        self.assertIs(less((0, 1), (-1, 2)), False)
        self.assertIs(less((-5, 1), (1, 100)), True)

    def test_none_is_less_than_itself(self):
        for one in SAMPLES:
            self.assertIs(less(one, one), False)

    def test_all_pairs(self):
        for one in SAMPLES:
            for other in SAMPLES:
                self.assertIs(less(one, other), Fraction(*one) < Fraction(*other))

    def test_near_ones_are_told_apart(self):
        near, nearer = (GREAT, GREAT + 1), (GREAT + 1, GREAT + 2)
        self.assertIs(less(near, nearer), True)
        self.assertIs(less(nearer, near), False)
        self.assertIs(less((-GREAT - 1, GREAT + 2), (-GREAT, GREAT + 1)), True)


if __name__ == "__main__":
    unittest.main()
