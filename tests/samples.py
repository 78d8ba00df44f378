"""Things of many kinds, for questions that are asked of anything."""

from decimal import Decimal
from fractions import Fraction


class SameAsAll:
    """Calls itself equal to anything, and can't be a key of a dict."""

    __hash__ = None

    def __eq__(self, other):
        return True


class NeverCompared:
    """Breaks where somebody compares it or asks its truth."""

    __hash__ = None

    def __eq__(self, other):
        raise RuntimeError("compared")

    def __bool__(self):
        raise RuntimeError("asked for its truth")


class AnyLength:
    """Tells a length and parts, but is no tuple."""

    def __len__(self):
        return 3

    def __getitem__(self, index):
        return ("dead", "ann", 1)[index]


# No text, no whole number and no tuple stands in here.
OTHER_KINDS = [
    None, True, False, 1.0, 0.0, -2.5, float("nan"), float("inf"), 1j, b"", b"ann", bytearray(b"ann"),
    [], [1], ["ann"], {}, {"ann": 1}, {1, 2}, frozenset(["ann"]), range(3), Fraction(1, 2), Fraction(3), Decimal(3),
    object(), int, str, tuple, len, lambda: "ann", (letter for letter in "ann"), ValueError("ann"), Ellipsis,
    SameAsAll(), NeverCompared(), AnyLength(),
]

TEXTS = ["", "ann", "he", "1", "0", "born", "True"]

TUPLES = [(), (1,), (1, 2), ("ann",), ("dead", "ann"), (None, None)]

NUMBERS = [0, 1, -1, 7, 10 ** 18, 10 ** 60, -10 ** 60]
