"""Whole numbers, and exact fractions: tuples (top, bottom) in lowest terms with a bottom from 1 on."""

from heirbook.errors import NoNumber


def is_whole(thing):
    # Python counts True and False as ints; they are truths here, and no numbers.
    return isinstance(thing, int) and not isinstance(thing, bool)


def common_divisor(one, other):
    """The greatest number that divides both, of two numbers from 0 on that are not both 0."""
    while other != 0:
        left = one % other
        one = other
        other = left
    return one


def ratio(top, bottom):
    if not is_whole(top) or not is_whole(bottom):
        raise NoNumber("a fraction is made of two whole numbers")
    if bottom == 0:
        raise NoNumber("a fraction's bottom is never 0")
    divisor = common_divisor(abs(top), abs(bottom))
    if bottom < 0:
        # The sign belongs to the top, so that a fraction is written in one way only.
        divisor = -divisor
    return (top // divisor, bottom // divisor)


def plus(one, other):
    return ratio(one[0] * other[1] + other[0] * one[1], one[1] * other[1])


def minus(one, other):
    return ratio(one[0] * other[1] - other[0] * one[1], one[1] * other[1])


def times(one, other):
    return ratio(one[0] * other[0], one[1] * other[1])


def over(one, other):
    """The quotient; by (0, 1) it has the bottom 0, which ratio refuses."""
    return ratio(one[0] * other[1], one[1] * other[0])


def less(one, other):
    return one[0] * other[1] < other[0] * one[1]
