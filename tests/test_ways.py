import unittest

from drawn import drawn_ways, refused, short_ways
from heirbook.ways import read_way, show_way, turned
from samples import NUMBERS, OTHER_KINDS, TUPLES

LETTERS = ["F", "M", "T", "f", "m", "t", "S"]
STEPS = LETTERS + ["he", "she"]
OTHER_LETTER = {"F": "f", "M": "m", "T": "t", "f": "F", "m": "M", "t": "T", "S": "S", "he": "he", "she": "she"}


class ReadTest(unittest.TestCase):
    def assert_way(self, text, wanted):
        told = read_way(text)
        self.assertIs(type(told), tuple)
        self.assertEqual(told, wanted)

    def test_each_step_alone(self):
        for step in STEPS:
            self.assert_way(step, (step,))

    def test_none_and_several(self):
        self.assert_way("", ())
        self.assert_way("F f he", ("F", "f", "he"))
        self.assert_way("she S T t she", ("she", "S", "T", "t", "she"))
        for one in STEPS:
            for other in STEPS:
                self.assert_way(f"{one} {other}", (one, other))

    def test_24_steps_and_25(self):
        for step in STEPS:
            for count in (1, 2, 23, 24):
                self.assert_way(" ".join([step] * count), (step,) * count)
            for count in (25, 26, 48, 100):
                self.assertEqual(refused(lambda: read_way(" ".join([step] * count))), "NoWay")
        self.assertEqual(refused(lambda: read_way(" ".join(STEPS * 3))), "NoWay")

    def test_wrong_blanks(self):
        for text in (" ", "  ", " F", "F ", "F  f", "F f ", " F f", "F   f", "F\n", "\nF", "F\nf", "F \nf", "F\n f", "\n",
                     "F\tf", "\t", "F\u00a0f", "F\u2003f", "F\rf", "F\r", "\x0bF", "F,f", "he  she", "he she "):
            self.assertEqual(refused(lambda: read_way(text)), "NoWay", repr(text))

    def test_wrong_steps(self):
        for text in ("A", "s", "x", "H", "h", "e", "He", "HE", "She", "SHE", "FF", "Ff", "fF", "heshe", "sheS", "Fhe", "heF",
                     "hehe", "her", "hes", "sh", "F f x", "x F", "F Ff", "0", "-", ":he", "other", "F | M", "F = M",
                     "\u0405", "\uff26", "F\u0301", "f\x00", "("):
            self.assertEqual(refused(lambda: read_way(text)), "NoWay", repr(text))

    def test_every_single_sign(self):
        for number in range(0x400):
            sign = chr(number)
            if sign in LETTERS:
                self.assert_way(sign, (sign,))
            else:
                self.assertEqual(refused(lambda: read_way(sign)), "NoWay", repr(sign))
                self.assertEqual(refused(lambda: read_way(f"F {sign}")), "NoWay", repr(sign))

    def test_other_kinds(self):
        for thing in OTHER_KINDS + NUMBERS + TUPLES + [("F",), ("F", "f"), ["F"], b"F", {"F": 1}]:
            self.assertEqual(refused(lambda: read_way(thing)), "NoWay")


class ShowTest(unittest.TestCase):
    def test_texts(self):
        self.assertEqual(show_way(()), "")
        self.assertEqual(show_way(("F",)), "F")
        self.assertEqual(show_way(("he", "F", "she")), "he F she")
        self.assertEqual(show_way(("S",) * 24), " ".join(["S"] * 24))

    def test_shown_and_read_again(self):
        for way in short_ways(3) + drawn_ways(1, 300):
            text = show_way(way)
            self.assertIs(type(text), str)
            self.assertEqual(read_way(text), way)
            self.assertEqual(len(text.split()), len(way))


class TurnedTest(unittest.TestCase):
    def test_each_step(self):
        for step in STEPS:
            self.assertEqual(turned((step,)), (OTHER_LETTER[step],))

    def test_none_and_several(self):
        self.assertEqual(turned(()), ())
        self.assertEqual(turned(("F", "f", "he")), ("he", "F", "f"))
        self.assertEqual(turned(("M", "T", "S", "she")), ("she", "S", "t", "m"))
        self.assertEqual(turned(("f",) * 24), ("F",) * 24)
        self.assertEqual(turned(("T",) * 23 + ("m",)), ("M",) + ("t",) * 23)

    def test_drawn_ones(self):
        for way in short_ways(3) + drawn_ways(2, 300):
            told = turned(way)
            self.assertIs(type(told), tuple)
            self.assertEqual(told, tuple(OTHER_LETTER[step] for step in way[::-1]))
            self.assertEqual(turned(told), way)


if __name__ == "__main__":
    unittest.main()
