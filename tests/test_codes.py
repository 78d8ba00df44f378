import math
import random
import re
import unittest

from drawn import refused
from heirbook.codes import Code
from heirbook.tongues import Tongue
from samples import NUMBERS, OTHER_KINDS, TUPLES

TONGUE = Tongue("\n".join([
    "child = f | m | t", "wife = S", "sib = F f other | M m other", "son = f he | m he she | he t", "grand = :child :child",
    "up = F | M", "marked = f | m other", "elder = f elder", "tests = f | he she", "late = f | m f he | f F", "across = f | f S",
    "said = f | m :son", "one = f", "deep = f m t f m t he she f m t f", "he = m", "heads = t", "stand = F f", "class = S S",
    "taker = f | T", "mother = m | M f",
]))
STANDS = ["child", "son", "one", "deep", "he", "heads"]
NO_STANDS = ["wife", "sib", "grand", "up", "marked", "elder", "tests", "late", "across", "said", "stand", "class", "taker",
             "mother"]

RIGHT_SHARES = {
    "0": (0, 1), "1": (1, 1), "1/2": (1, 2), "2/3": (2, 3), "5/7": (5, 7), "1/10": (1, 10), "99/100": (99, 100),
    "1/" + "9" * 18: (1, 10 ** 18 - 1), "9" * 17 + "8/" + "9" * 18: (10 ** 18 - 2, 10 ** 18 - 1),
    "1/1" + "0" * 17: (1, 10 ** 17),
}
WRONG_SHARES = [
    "", "2", "10", "00", "01", "-1", "-0", "+1", "1.0", "0.5", "1/", "/2", "/", "1/1", "2/2", "2/4", "3/2", "0/5", "0/1", "00/5",
    "01/2", "1/02", "001/2", "1/2/3", "1//2", "-1/2", "1/-2", "+1/2", "1/0", "0/0", "1 /2", "1/ 2", "a/b", "1/b", "half", "1/1e9",
    "1_0/11", "1/1_1", "\u00bd", "\u0661/\u0662", "1/\u0662", "\u00b9/2", "1/2\u00b2", "1/1" + "0" * 18, "1/" + "9" * 19,
    "3/" + "7" * 30, "1/" + "0" * 18 + "1", "9" * 19 + "/" + "9" * 18, "1/2\r", "1/2\t", "6/9", "1/2;", "1|2",
]

HEAD = re.compile(r"(?:spouse ([a-z]+)\n)?(?:stand ([a-z]+)\n)?((?:class [a-z]+ (?:heads|lines) [0-9/]+\n){1,12})"
                  r"(?:alone ([0-9/]+)\n)?(ahead\n)?(apart\n)?")


def share_of(text):
    """A SHARE in the plain, or None."""
    if text in ("0", "1"):
        return (int(text), 1)
    found = re.fullmatch("([1-9][0-9]*)/([1-9][0-9]{0,17})", text)
    if found and int(found[1]) < int(found[2]) and math.gcd(int(found[1]), int(found[2])) == 1:
        return (int(found[1]), int(found[2]))
    return None


def fields_of(text):
    """7.1: all fields of the code of a text for TONGUE, or None."""
    found = HEAD.fullmatch(text + "\n")
    if not found:
        return None
    classes = [row.split(" ") for row in found[3].split("\n")[:-1]]
    alone = (1, 1) if found[4] is None else share_of(found[4])
    told = tuple((row[1], row[2], share_of(row[3])) for row in classes)
    words = [row[1] for row in classes] + [word for word in (found[1], found[2]) if word is not None]
    if alone is None or None in [row[2] for row in told] or any(word not in TONGUE.words() for word in words):
        return None
    if found[2] is not None and found[2] not in STANDS:
        return None
    return (found[1] or "", found[2] or "", told, alone, found[5] is not None, found[6] is not None)


def fields(code):
    return (code.spouse, code.stand, code.classes, code.alone, code.gifts, code.apart)


class RightTest(unittest.TestCase):
    def assert_code(self, text, wanted):
        code = Code(TONGUE, text)
        self.assertEqual(fields(code), wanted, text)
        self.assertEqual(fields_of(text), wanted, text)
        self.assertEqual(code.text(), text)
        self.assertIs(code.tongue, TONGUE)
        self.assertIs(type(code.classes), tuple)
        self.assertTrue(all(type(one) is tuple and type(one[2]) is tuple for one in code.classes))
        self.assertEqual([type(one) for one in fields(code)], [str, str, tuple, tuple, bool, bool])

    def test_each_row_there_and_not_there(self):
        rows = [("spouse wife", 0, "wife"), ("stand child", 1, "child"), ("alone 1/3", 3, (1, 3)), ("ahead", 4, True),
                ("apart", 5, True)]
        for number in range(32):
            wanted = ["", "", (("sib", "heads", (1, 2)),), (1, 1), False, False]
            lines = []
            for turn, (row, field, value) in enumerate(rows):
                if turn == 2:
                    lines.append("class sib heads 1/2")
                if number >> turn & 1:
                    lines.append(row)
                    wanted[field] = value
            self.assert_code("\n".join(lines), tuple(wanted))

    def test_one_to_twelve_classes(self):
        for count in (1, 2, 11, 12):
            words = (TONGUE.words() * 2)[:count]
            text = "\n".join(f"class {word} lines 0" for word in words)
            self.assert_code(text, ("", "", tuple((word, "lines", (0, 1)) for word in words), (1, 1), False, False))
            self.assert_code(text + "\nalone 0", ("", "", tuple((word, "lines", (0, 1)) for word in words), (0, 1), False, False))
        for count in (13, 14, 30):
            text = "\n".join(["class child lines 0"] * count)
            self.assertEqual(refused(lambda: Code(TONGUE, text)), "NoCode")
            self.assertEqual(refused(lambda: Code(TONGUE, "spouse wife\n" + text + "\nahead")), "NoCode")

    def test_one_class_told_several_times(self):
        self.assert_code("class child heads 0\nclass child lines 1\nclass child heads 0",
                         ("", "", (("child", "heads", (0, 1)), ("child", "lines", (1, 1)), ("child", "heads", (0, 1))), (1, 1),
                          False, False))

    def test_shares(self):
        for text, share in RIGHT_SHARES.items():
            self.assertEqual(share_of(text), share)
            self.assert_code(f"class child lines {text}", ("", "", (("child", "lines", share),), (1, 1), False, False))
            self.assert_code(f"class child lines 0\nalone {text}", ("", "", (("child", "lines", (0, 1)),), share, False, False))
            self.assert_code(f"class up heads 0\nclass child lines {text}\nahead",
                             ("", "", (("up", "heads", (0, 1)), ("child", "lines", share)), (1, 1), True, False))

    def test_words_of_many_kinds(self):
        self.assert_code("spouse class\nstand heads\nclass stand heads 0\nclass class lines 1\nclass heads heads 0\nalone 0",
                         ("class", "heads", (("stand", "heads", (0, 1)), ("class", "lines", (1, 1)), ("heads", "heads", (0, 1))),
                          (0, 1), False, False))
        for word in TONGUE.words():
            self.assert_code(f"spouse {word}\nclass {word} heads 0",
                             (word, "", ((word, "heads", (0, 1)),), (1, 1), False, False))

    def test_words_to_stand_in(self):
        self.assertEqual(sorted(STANDS + NO_STANDS), sorted(TONGUE.words()))
        for word in STANDS:
            self.assert_code(f"stand {word}\nclass child lines 0",
                             ("", word, (("child", "lines", (0, 1)),), (1, 1), False, False))
        for word in NO_STANDS:
            self.assertEqual(refused(lambda: Code(TONGUE, f"stand {word}\nclass child lines 0")), "NoCode", word)
            self.assertEqual(refused(lambda: Code(TONGUE, f"spouse child\nstand {word}\nclass child lines 0")), "NoCode", word)

    def test_words_to_stand_in_by_first_and_later_parts(self):
        good, bad = ["f", "m he", "she t", "t t he"], ["F", "M", "T", "S", "he", "she he", "f other", "t elder", "m younger",
                                                       ":x", "f :x", "f S", "f F", "T t", "he :x f", "f f f F"]
        for wrong in bad:
            for parts in ([wrong], [wrong, "f"], ["f", wrong], ["f", "m he", wrong], ["f", wrong, "t"]):
                tongue = Tongue("x = f\nw = " + " | ".join(parts))
                self.assertEqual(refused(lambda: Code(tongue, "stand w\nclass x heads 0")), "NoCode", parts)
                self.assertEqual(Code(tongue, "spouse w\nclass w heads 0").spouse, "w")
        for parts in ([one] for one in good):
            self.assertEqual(Code(Tongue("w = " + " | ".join(parts)), "stand w\nclass w heads 0").stand, "w")
        self.assertEqual(Code(Tongue("w = " + " | ".join(good)), "stand w\nclass w heads 0").stand, "w")


class WrongTest(unittest.TestCase):
    def assert_no_code(self, text):
        self.assertIsNone(fields_of(text), repr(text))
        self.assertEqual(refused(lambda: Code(TONGUE, text)), "NoCode", repr(text))

    def test_rows_in_another_order_or_told_twice(self):
        rows = ["spouse wife", "stand child", "class child lines 0", "alone 1/2", "ahead", "apart"]
        Code(TONGUE, "\n".join(rows))
        for one in range(6):
            for other in range(6):
                if one != other:
                    changed = list(rows)
                    changed.insert(other, changed.pop(one))
                    self.assert_no_code("\n".join(changed))
            if one != 2:
                self.assert_no_code("\n".join(rows[:one] + [rows[one]] + rows[one:]))
                self.assert_no_code("\n".join(rows + [rows[one]]))
                self.assert_no_code("\n".join([rows[one]] + rows))
        self.assert_no_code("\n".join(rows + ["class child lines 0"]))
        self.assert_no_code("class child lines 0\nalone 0\nclass child lines 0")
        self.assert_no_code("class child lines 0\nstand child\nclass child lines 0")

    def test_no_class(self):
        for text in ("", "spouse wife", "stand child", "spouse wife\nstand child", "alone 1", "ahead", "apart",
                     "spouse wife\nstand child\nalone 1\nahead\napart"):
            self.assert_no_code(text)

    def test_blanks_and_empty_rows(self):
        good = "spouse wife\nstand child\nclass child lines 1/2\nalone 1/2\nahead\napart"
        for at in range(len(good) + 1):
            for more in (" ", "\n", "\t", "\r"):
                self.assert_no_code(good[:at] + more + good[at:])
        for wrong in ("\n", " ", "\n\n", "class child lines 0\n", "\nclass child lines 0", "class child lines 0\n\napart",
                      "class child lines 0\r\napart", "class child lines 0 ; apart", "class child lines 0\x0bapart"):
            self.assert_no_code(wrong)

    def test_words_too_few_and_too_many(self):
        for wrong in ("spouse", "spouse wife child", "stand", "stand child child", "class", "class child", "class child lines",
                      "class child lines 0 0", "class child 0", "class lines 0", "alone", "alone 1 1", "ahead 1", "apart 0",
                      "none", "Class child lines 0", "class Child lines 0", "class child Lines 0", "class child head 0",
                      "class child line 0", "class child wife 0", "class child by heads 0"):
            self.assert_no_code(wrong)
            self.assert_no_code(wrong + "\nclass child lines 0")
            self.assert_no_code("class child lines 0\n" + wrong)

    def test_shares(self):
        for text in WRONG_SHARES:
            self.assertIsNone(share_of(text), text)
            self.assert_no_code(f"class child lines {text}")
            self.assert_no_code(f"class child lines 0\nclass child heads {text}")
            self.assert_no_code(f"class child lines 0\nalone {text}")

    def test_words_that_the_tongue_has_not(self):
        for word in ("aunt", "Child", "child,", ":child", "f", "F", "chil", "-", "childs", "spouse", "lines", "0"):
            self.assert_no_code(f"spouse {word}\nclass child lines 0")
            self.assert_no_code(f"stand {word}\nclass child lines 0")
            self.assert_no_code(f"class {word} lines 0")
            self.assert_no_code(f"class child lines 0\nclass {word} lines 0")
        other = Tongue("kid = f")
        self.assertEqual(refused(lambda: Code(other, "class child lines 0")), "NoCode")
        self.assertEqual(Code(other, "class kid lines 0").classes, (("kid", "lines", (0, 1)),))

    def test_things_of_other_kinds(self):
        text = "class child lines 0"
        for thing in OTHER_KINDS + NUMBERS + TUPLES + [(text,), [text], text.encode(), {text: 1}]:
            self.assertEqual(refused(lambda: Code(TONGUE, thing)), "NoCode")

    def test_texts_with_one_sign_changed(self):
        chance = random.Random(1)
        good = ["spouse wife\nstand child\nclass child lines 1/2\nclass up heads 0\nalone 1/2\nahead\napart", "class he heads 1",
                "stand one\nclass sib heads 3/4\napart", "class child lines 0\nclass up heads 1/11\nclass sib heads 0\nahead"]
        kinds = []
        for turn in range(6000):
            text = chance.choice(good)
            at = chance.randrange(len(text) + 1)
            text = text[:at] + chance.choice(["", chance.choice("0123456789/ \nachl")]) + text[at + chance.choice([0, 1, 1]):]
            wanted = fields_of(text)
            kinds.append(wanted is None)
            if wanted is None:
                self.assert_no_code(text)
            else:
                self.assertEqual(fields(Code(TONGUE, text)), wanted, repr(text))
        self.assertGreater(kinds.count(False), 300)


if __name__ == "__main__":
    unittest.main()
