import random
import re
import unittest

import plain
from drawn import answer, book_in_order, refused
from heirbook.bars import bars, may_join
from heirbook.codes import Code
from heirbook.desk import Desk
from heirbook.entries import is_entry
from heirbook.errors import Barred, Unsure
from heirbook.joined import word_of
from heirbook.kin import kin, who
from heirbook.least import alike, least
from heirbook.nights import settled
from heirbook.sharing import shares
from heirbook.tongues import Tongue
from heirbook.walks import reach
from heirbook.ways import read_way
from samples import NUMBERS, OTHER_KINDS, TUPLES

HOUSE = [
    "born dad he 0 - -", "born mum she 0 - -", "born ann she 20 dad mum", "born bob he 22 dad mum", "born cid - 24 dad -",
    "born eve she 45 bob -", "born fay she 46 bob -", "born gus he 66 - ann", "union dad mum 10", "taken gus cid 70",
    "given dad ann 30 40", "dead bob 75", "dead dad 80",
]
WORDS = ["word sib = F f other | M m other", "word up = F | M", "word same = :up f | :up m", "word wed = S", "word half = F f",
         "word near = M m | F f"]
NUMBER = "(?:0|-?[1-9][0-9]{0,17})"
ONE = r"[^ \n]+"
FORMS = [
    rf"born {ONE} (?:he|she|-) {NUMBER} {ONE} {ONE}", rf"(?:taken|union|parted) {ONE} {ONE} {NUMBER}", rf"dead {ONE} {NUMBER}",
    rf"given {ONE} {ONE} {NUMBER} {NUMBER}", rf"(?:word|code|least) {ONE}(?: {ONE})*", rf"(?:bar|share) {ONE}",
    rf"(?:who|kin|joined|bars|join) {ONE} {ONE}", rf"way {ONE}(?: {ONE})* of {ONE}",
    rf"alike (?!and ){ONE}(?: (?!and ){ONE})* and {ONE}(?: {ONE})*", rf"settle(?: {ONE} {NUMBER})+",
]


def is_row(row):
    """11.1 and the interface's list, of a text."""
    if not any(re.fullmatch(form, row) for form in FORMS):
        return False
    words = row.split(" ")
    return words[0] != "settle" or len(set(words[1::2])) == len(words[1::2])


def desk_with(rows):
    desk = Desk()
    for row in rows:
        desk.say(row)
    return desk


def shown(part):
    return str(part[0]) if part[1] == 1 else f"{part[0]}/{part[1]}"


def shown_all(told):
    return "; ".join(f"{name or '-'} {shown(part)}" for name, part in told.items())


class Mirror:
    """What a desk answers, by the stages themselves; a row that is none is told NoRow."""

    def __init__(self):
        self.entries, self.rows, self.barring = [], "child = f | m | t", []
        self.code = Code(Tongue(self.rows), "class child lines 0")

    def say(self, row):
        if not is_row(row):
            return "NoRow"
        return answer(lambda: self.asked(*row.split(" ")))

    def asked(self, first, *words):
        text = " ".join(words)
        if first in ("born", "taken", "union", "parted", "dead", "given"):
            return self.put(first, words)
        if first == "word":
            self.rows = Tongue(self.rows + "\n" + text).text()
            return "ok"
        tongue, book = Tongue(self.rows), book_in_order(self.entries)
        if first == "bar":
            tongue.parts(text)
            self.barring.append(text)
            return "ok"
        if first == "code":
            self.code = Code(tongue, "\n".join(text.split(" ; ")))
            return "ok"
        return self.told(first, words, text, tongue, book)

    def put(self, first, words):
        entry = (first, *words)
        if first == "born":
            entry = (first, words[0], words[1].replace("-", ""), int(words[2]), *["" if one == "-" else one for one in words[3:]])
        elif first == "given":
            entry = (first, words[0], words[1], int(words[2]), int(words[3]))
        else:
            entry = (first, *words[:-1], int(words[-1]))
        if not is_entry(entry):
            return "NoEntry"
        refusal = plain.refusal(self.entries, entry)
        if refusal is None and first == "union":
            if bars(book_in_order(self.entries), Tongue(self.rows), self.barring, words[0], words[1]):
                refusal = "Barred"
        if refusal is None:
            self.entries.append(entry)
        return refusal or "ok"

    def told(self, first, words, text, tongue, book):
        if first == "who":
            return " ".join(who(book, tongue, *words))
        if first == "way":
            return " ".join(reach(book, read_way(" ".join(words[:-2])), words[-1]))
        if first == "kin":
            return " ".join(word for number, word in kin(book, [tongue], *words))
        if first == "least":
            found = least(read_way(text))
            return "never" if found is None else " ".join(found)
        if first == "alike":
            one, other = text.split(" and ", 1)
            return "yes" if alike(read_way(one), read_way(other)) else "no"
        if first == "joined":
            return " ".join(word_of(tongue, *words))
        if first == "bars":
            return "; ".join(" ".join(bar) for bar in bars(book, tongue, self.barring, *words))
        if first == "join":
            return "yes" if may_join(book, tongue, self.barring, *words) else "no"
        if first == "share":
            return shown_all(shares(book, self.code, *words))
        try:
            return shown_all(settled(book, self.code, {name: (int(amount), 1) for name, amount in zip(words[::2], words[1::2])}))
        except Unsure as refusal:
            return f"unsure {refusal.day}"


class AnsweredTest(unittest.TestCase):
    def assert_answers(self, desk, pairs):
        for row, wanted in pairs:
            self.assertTrue(is_row(row), row)
            told = answer(lambda: desk.say(row))
            self.assertIs(type(told), str)
            self.assertEqual(told, wanted, row)

    def test_entries_and_words_and_bars_and_codes(self):
        desk = Desk()
        self.assert_answers(desk, [(row, "ok") for row in HOUSE + WORDS])
        self.assert_answers(desk, [("bar sib", "ok"), ("bar sib", "ok"), ("bar child", "ok"), ("code class up heads 1/2", "ok"),
                                   ("code spouse wed ; stand child ; class child lines 1/4 ; class up heads 1/2 ; alone 1/2 ; "
                                    "ahead ; apart", "ok"), ("parted mum dad 11", "ok"), ("born neo - -5 - -", "ok")])

    def test_what_a_desk_begins_with(self):
        self.assert_answers(desk_with(HOUSE), [
            ("kin dad ann", "child"), ("kin ann dad", ""), ("who child cid", "gus"), ("bars ann bob", ""), ("who sib ann", "NoWord"),
            ("share dad", "ann 1/2; cid 1/2"), ("join ann cid", "yes"),
        ])
        self.assert_answers(Desk(), [("share dad", "NoPerson"), ("settle dad 1", "NoPerson"), ("joined child child", "")])

    def test_lists_of_names(self):
        desk = desk_with(HOUSE + WORDS)
        self.assert_answers(desk, [
            ("who child dad", "ann bob cid"), ("who sib cid", "ann bob"), ("who sib gus", ""), ("who wed dad", "mum"),
            ("way f of dad", "ann bob cid"), ("way F f she of cid", "ann"), ("way S S of mum", "mum"), ("way T of ann", ""),
            ("way he of mum", ""), ("kin cid ann", "sib same half near"), ("kin mum dad", "wed"), ("kin mum gus", ""),
        ])

    def test_ways(self):
        self.assert_answers(Desk(), [
            ("least F", "F"), ("least f F f F", "f F"), ("least F he f F f", "F f"), ("least F she", "never"), ("least he she", "never"),
            ("alike F and F he", "yes"), ("alike F and M", "no"), ("alike f F f F and f F", "yes"), ("alike F she and M he", "yes"),
            ("alike F f and F f he", "no"), ("alike he he and he", "yes"),
        ])

    def test_joined(self):
        desk = desk_with(WORDS + ["word mark = F other", "word down = f | m", "word long = " + " ".join(["S"] * 12),
                                  "word far = :long :long S"])
        self.assert_answers(desk, [
            ("joined up down", "same near"), ("joined half half", "half"), ("joined up up", ""), ("joined sib up", "Marked"),
            ("joined up mark", "Marked"), ("joined far up", "TooMany"), ("joined far mark", "TooMany"), ("joined mark far", "Marked"),
            ("joined long far", "TooMany"), ("joined none mark", "NoWord"), ("joined mark none", "NoWord"), ("joined long wed", ""),
        ])

    def test_bars_and_join(self):
        desk = desk_with(HOUSE + WORDS + ["bar child", "bar sib", "bar child"])
        self.assert_answers(desk, [
            ("bars ann cid", "sib ann cid; sib cid ann"), ("bars cid ann", "sib cid ann; sib ann cid"), ("bars ann gus", "child ann gus; "
                                                                                                     "child ann gus"),
            ("bars gus ann", "child ann gus; child ann gus"), ("bars eve gus", ""), ("bars ann ann", ""), ("join eve gus", "yes"),
            ("join gus eve", "yes"), ("join ann cid", "no"), ("join eve eve", "no"), ("join eve dad", "no"), ("join eve zed", "NoPerson"),
        ])

    def test_share(self):
        desk = desk_with(HOUSE + WORDS)
        self.assert_answers(desk, [
            ("share dad", "ann 1/2; cid 1/2"), ("share bob", "eve 1/2; fay 1/2"), ("share ann", "Alive"), ("share zed", "NoPerson"),
            ("code spouse wed ; class up heads 1/3 ; alone 1/3", "ok"), ("share dad", "- 2/3; mum 1/3"), ("share bob", "dad 1/2; mum 1/2"),
            ("code stand child ; class child lines 0", "ok"), ("share dad", "ann 1/3; cid 1/3; eve 1/6; fay 1/6"),
            ("code class up heads 1/3", "ok"), ("share dad", "- 1"), ("code class child heads 0 ; class up heads 1/3", "ok"),
        ])

    def test_settle(self):
        desk = desk_with(HOUSE + WORDS)
        self.assert_answers(desk, [
            ("settle dad 9", "ann 9/2; cid 9/2"), ("settle bob 1 dad 2 gus 3", "ann 1; cid 1; eve 1/2; fay 1/2; gus 3"),
            ("settle dad 0", ""), ("settle mum 0 ann 5", "ann 5"), ("settle dad -1", "NoNumber"), ("settle zed 1", "NoPerson"),
            ("settle dad -1 zed 1", "NoPerson"), ("settle 5 5", "NoPerson"), ("code class up heads 0", "ok"), ("settle dad 3", "- 3"),
            ("settle bob 3 gus 1", "- 3/2; gus 1; mum 3/2"), ("code stand child ; class child lines 0 ; ahead", "ok"),
            ("settle dad 9", "cid 9/2; eve 9/4; fay 9/4"), ("settle dad 999999999999999999 mum 1",
                                                           "ann 333333333333333313; cid 333333333333333343; "
                                                           "eve 333333333333333343/2; fay 333333333333333343/2; mum 1"),
        ])

    def test_unsure(self):
        desk = desk_with(HOUSE[:-2] + ["dead bob 80", "dead dad 80"])
        self.assert_answers(desk, [
            ("settle dad 9", "unsure 80"), ("settle mum 9", "mum 9"), ("settle dad 9 zed 1", "NoPerson"), ("settle dad -9", "NoNumber"),
            ("code class child lines 0 ; apart", "ok"), ("settle dad 9", "ann 9/2; cid 9/2"), ("share dad", "ann 1/2; cid 1/2"),
        ])
        for name in ("mum", "ann", "cid"):
            desk.say(f"dead {name} 80")
        self.assert_answers(desk, [("settle dad 9", "- 9"), ("code class child lines 0", "ok"), ("settle dad 9", "TooMany"),
                                   ("settle dad 0", "TooMany")])
        desk = desk_with(["born a he -9 - -", "born b - -8 a -", "born c - -7 a -", "dead a -5", "dead b -5"])
        self.assert_answers(desk, [("settle a 1", "unsure -5"), ("settle a 0", ""), ("settle c 2", "c 2")])

    def test_a_union_across_bars(self):
        desk = desk_with(HOUSE + WORDS + ["bar sib"])
        self.assert_answers(desk, [("union ann cid 90", "Barred"), ("parted ann cid 90", "ok"), ("union ann cid 90", "Twice"),
                                   ("union ann cid 91", "Barred"), ("union ann zed 91", "NoPerson"), ("union eve gus 91", "ok"),
                                   ("union ann ann 91", "NoFit"), ("way S of ann", ""), ("way S of eve", "gus")])
        with self.assertRaises(Barred) as caught:
            desk.say("union cid ann 95")
        self.assertEqual(caught.exception.bars, [("sib", "cid", "ann"), ("sib", "ann", "cid")])

    def test_bars_and_words_told_later_than_entries(self):
        desk = desk_with(HOUSE + ["union ann cid 85"] + WORDS)
        self.assert_answers(desk, [("bar sib", "ok"), ("way S of ann", "cid"), ("bars ann cid", "sib ann cid; sib cid ann"),
                                   ("union ann cid 90", "Barred"), ("parted cid ann 95", "ok"), ("union ann cid 96", "Barred"),
                                   ("word new = S", "ok"), ("bar new", "ok"), ("kin dad mum", "wed new"), ("union mum dad 90", "Barred"),
                                   ("union mum gus 90", "ok")])

    def test_a_code_is_read_with_the_tongue_of_now_and_kept(self):
        desk = desk_with(HOUSE)
        self.assert_answers(desk, [("code class kid heads 0", "NoCode"), ("share dad", "ann 1/2; cid 1/2"), ("word kid = f she", "ok"),
                                   ("share dad", "ann 1/2; cid 1/2"), ("code class kid heads 0", "ok"), ("share dad", "ann 1"),
                                   ("word more = F", "ok"), ("share dad", "ann 1"), ("code class no heads 0", "NoCode"), ("share dad", "ann 1")])

    def test_words_behind_the_tongue(self):
        desk = desk_with(HOUSE)
        self.assert_answers(desk, [("word up = F | M", "ok"), ("word up = F", "NoTongue"), ("word grand = :up :up", "ok"),
                                   ("word child = f", "NoTongue"), ("word x = :zed", "NoTongue"), ("word x", "NoTongue"),
                                   ("word = F", "NoTongue"), ("word x = :x", "NoTongue"), ("word X = F", "NoTongue"),
                                   ("word x = F |", "NoTongue"), ("who grand gus", "dad mum"), ("kin eve dad", "grand"), ("bar x", "NoWord"),
                                   ("word x = F other", "ok"), ("bar x", "ok"), ("kin eve bob", "up x")])
        desk = Desk()
        names = [one + other for one in "abcdefg" for other in "abcdefg"][:40]
        self.assert_answers(desk, [(f"word {name} = F", "ok") for name in names[:39]] + [("word zz = F", "NoTongue")])

    def test_codes_that_are_none(self):
        desk = desk_with(HOUSE)
        for text in ("x", ";", "class child lines", "class child lines 0 ;", "; class child lines 0", "class child lines 0; ahead",
                     "class child lines 0 ;ahead", "class child lines 0 ; ; ahead", "class child lines 0 ahead", "ahead",
                     "apart ; class child lines 0", "class child lines 2/4", "class wed lines 0", "stand up ; class child lines 0",
                     "class child lines 0\tahead", "class child lines 0 | ahead"):
            self.assert_answers(desk, [(f"code {text}", "NoCode"), ("share dad", "ann 1/2; cid 1/2")])


class RefusedTest(unittest.TestCase):
    def assert_no_row(self, row, desk=None):
        desk = desk or desk_with(HOUSE + WORDS)
        self.assertEqual(refused(lambda: desk.say(row)), "NoRow", repr(row))

    def test_rows_that_are_none(self):
        desk = desk_with(HOUSE + WORDS)
        for row in ("", " ", "  ", "\n", "x", "ok", "Born x he 1 - -", "borns x he 1 - -", "entry", "end", "BORN", "born", "say who child dad",
                    "who", "way", "kin", "least", "alike", "joined", "bars", "join", "share", "settle", "word", "bar", "code", "taken",
                    "union", "parted", "dead", "given", "unsure 80", "paper dad", "level 1", "split up same", "ways up", "house",
                    "he", "-", "0", ";"):
            self.assertFalse(is_row(row))
            self.assert_no_row(row, desk)

    def test_blanks_and_line_feeds(self):
        desk = desk_with(HOUSE + WORDS)
        for row in ("who child dad", "born neo he 5 - -", "least F f", "alike F and M", "settle dad 5", "code class child lines 0",
                    "word new = F", "way F of ann", "dead ann 90", "bar up"):
            self.assertTrue(is_row(row))
            for wrong in (" " + row, row + " ", row.replace(" ", "  ", 1), row + "\n", "\n" + row, row.replace(" ", "\n", 1),
                          row.replace(" ", " \n", 1), row[::-1].replace(" ", "  ", 1)[::-1], row + "\nwho child dad", row + "  ",
                          row.replace(" ", "\t"), row.replace(" ", "\u00a0")):
                self.assertFalse(is_row(wrong))
                self.assert_no_row(wrong, desk)

    def test_words_too_few_and_too_many(self):
        desk = desk_with(HOUSE + WORDS)
        for row in ("born neo he 5 - -", "taken ann cid 70", "union ann eve 70", "parted ann eve 70", "dead ann 90", "given ann eve 5 70",
                    "bar up", "who child dad", "kin ann dad", "joined up up", "bars ann dad", "join ann dad", "share dad"):
            self.assertTrue(is_row(row))
            words = row.split(" ")
            for number in range(1, len(words)):
                self.assert_no_row(" ".join(words[:number] + words[number + 1:]), desk)
                self.assert_no_row(" ".join(words[:number] + [words[number]] * 2 + words[number + 1:]), desk)
            self.assert_no_row(" ".join(words + ["x"]), desk)

    def test_numbers(self):
        desk = desk_with(HOUSE + WORDS)
        for number in ("00", "01", "-01", "-0", "+1", "+0", "1.0", "1e3", "1_000", "--1", "-", "x", "1" * 19, "-" + "1" * 19, "0" * 18, "1/2",
                       "\u0661", "\u00b2", "1\t", "0x1", "1,0", "1-", "- 1", "five", "\uff11", "00000000000000000001", "-x", "-1.5"):
            for row in ("born neo he {} - -", "taken ann cid {}", "union ann eve {}", "parted ann eve {}", "dead ann {}", "given ann eve {} 70",
                        "given ann eve 70 {}", "settle dad {}", "settle dad 5 ann {}", "settle dad {} ann 5"):
                self.assertFalse(is_row(row.format(number)))
                self.assert_no_row(row.format(number), desk)
        for number in ("0", "-1", "5", "1" * 18, "9" * 18, "-" + "9" * 18, "10", "-10"):
            other = Desk()
            self.assertEqual(other.say(f"born neo he {number} - -"), "ok")
            self.assertEqual(other.say(f"dead neo {number}"), "ok")

    def test_sorts(self):
        for sort in ("He", "him", "it", "0", "--", "he,", "SHE", "none", "man"):
            self.assert_no_row(f"born neo {sort} 5 - -")
        desk = desk_with(["born a he 0 - -", "born b she 0 - -", "born c - 0 - -"])
        self.assertEqual([desk.say(f"way {test} of {name}") for test in ("he", "she") for name in "abc"], ["a", "", "", "", "b", ""])

    def test_ways(self):
        desk = desk_with(HOUSE)
        for row in ("way of dad", "way F", "way F of", "way F dad", "way of", "way F of dad x", "way F Of dad", "way F f dad of", "least",
                    "alike F", "alike F M", "alike and", "alike and F", "alike F and", "alike and F and M", "alike and and F", "alike F And M",
                    "alike and and", "alike F M and", "alike x", "alike F or M"):
            self.assertFalse(is_row(row), row)
            self.assert_no_row(row, desk)
        for row in ("way of of dad", "way F of of dad", "way x of dad", "way of F of dad", "alike F and and M", "alike F and and",
                    "alike F and M and F", "alike x and F", "alike F and x", "least x", "least and", "least F x f",
                    "least " + " ".join(["F"] * 25), "way " + " ".join(["f"] * 25) + " of dad", "alike F and " + " ".join(["F"] * 25),
                    "least F,", "way f of of zed", "way x of zed"):
            self.assertTrue(is_row(row), row)
            self.assertEqual(refused(lambda: desk.say(row)), "NoWay", row)

    def test_ways_are_read_first_from_the_left(self):
        desk = desk_with(HOUSE)
        self.assertEqual(refused(lambda: desk.say("way x of zed")), "NoWay")
        self.assertEqual(refused(lambda: desk.say("way F of zed")), "NoPerson")
        self.assertEqual(refused(lambda: desk.say("alike x and y")), "NoWay")
        self.assertEqual(desk.say("least " + " ".join(["F"] * 24)), " ".join(["F"] * 24))

    def test_settle(self):
        desk = desk_with(HOUSE)
        for row in ("settle dad", "settle dad 5 ann", "settle dad 5 dad 6", "settle dad 5 dad 5", "settle zed 1 zed 2", "settle dad 5 ann 6 dad 7",
                    "settle 5", "settle dad ann", "settle dad ann 5 6", "settle 5 dad", "settle dad 5 6", "settle - 5 - 5"):
            self.assertFalse(is_row(row), row)
            self.assert_no_row(row, desk)
        self.assertEqual(refused(lambda: desk.say("settle - 5")), "NoPerson")
        self.assertEqual(refused(lambda: desk.say("settle dad 5 5 5 Dad 5")), "NoPerson")

    def test_no_row_comes_ahead_of_all_else(self):
        desk = desk_with(HOUSE)
        for row, wanted in (("born 9 it 5 zed zed", "NoRow"), ("born 9 he 05 - -", "NoRow"), ("born 9 he 5 zed zed", "NoEntry"),
                            ("dead zed -0", "NoRow"), ("dead zed 0", "NoPerson"), ("union zed Zed 01", "NoRow"), ("given a b 0 01", "NoRow"),
                            ("given a b 01 0", "NoRow"), ("given ann cid 0 90", "NoEntry"), ("given ann cid -1 90", "NoEntry"),
                            ("settle zed 01", "NoRow"), ("settle zed 1 zed 1", "NoRow"), ("settle zed -1", "NoPerson"), ("way x zed", "NoRow"),
                            ("alike x y", "NoRow"), ("alike x and", "NoRow"), ("who none zed x", "NoRow"), ("who none zed", "NoWord"),
                            ("share zed x", "NoRow"), ("bar none x", "NoRow")):
            self.assertEqual(refused(lambda: desk.say(row)), wanted, row)

    def test_words_that_are_no_names(self):
        desk = desk_with(HOUSE + WORDS)
        for word in ("-", "9", "Dad", "toolongname", "d.d", ":sib", "he!", "a=b", "\u00e4", ";", "d-d"):
            for row, wanted in ((f"born {word} he 5 - -", "NoEntry"), (f"taken {word} ann 90", "NoEntry"), (f"taken ann {word} 90", "NoEntry"),
                                (f"union {word} ann 90", "NoEntry"), (f"parted ann {word} 90", "NoEntry"), (f"dead {word} 90", "NoEntry"),
                                (f"given {word} ann 5 90", "NoEntry"), (f"given ann {word} 5 90", "NoEntry"), (f"who child {word}", "NoPerson"),
                                (f"who {word} ann", "NoWord"), (f"way F of {word}", "NoPerson"), (f"kin {word} ann", "NoPerson"),
                                (f"kin ann {word}", "NoPerson"), (f"joined {word} up", "NoWord"), (f"joined up {word}", "NoWord"),
                                (f"bars {word} ann", "NoPerson"), (f"join ann {word}", "NoPerson"), (f"share {word}", "NoPerson"),
                                (f"bar {word}", "NoWord"), (f"settle {word} 5", "NoPerson")):
                self.assertEqual(refused(lambda: desk.say(row)), wanted, row)
            if word != "-":
                self.assertEqual(refused(lambda: desk.say(f"born new he 5 {word} -")), "NoEntry")
                self.assertEqual(refused(lambda: desk.say(f"born new he 5 - {word}")), "NoEntry")

    def test_each_other_refusal_of_entries(self):
        desk = desk_with(HOUSE)
        for row, wanted in (("born ann she 20 - -", "Twice"), ("born new he 20 ann -", "NoFit"), ("born new he 20 zed -", "NoPerson"),
                            ("dead bob 90", "Twice"), ("dead cid 23", "NoFit"), ("taken gus cid 99", "Twice"), ("taken cid gus 99", "NoFit"),
                            ("union mum dad 10", "Twice"), ("union ann ann 90", "NoFit"), ("given dad ann 5 40", "Twice"),
                            ("given dad dad 5 40", "NoFit")):
            self.assertEqual(refused(lambda: desk.say(row)), wanted, row)
        for number in range(len(HOUSE), 400):
            desk.say(f"union ann cid {100 + number}")
        self.assertEqual(refused(lambda: desk.say("dead ann 900")), "Full")
        self.assertEqual(refused(lambda: desk.say("dead 9 900")), "NoEntry")
        self.assertEqual(refused(lambda: desk.say("dead ann 0900")), "NoRow")

    def test_things_of_other_kinds(self):
        desk = desk_with(HOUSE)
        for thing in OTHER_KINDS + NUMBERS + TUPLES + [b"who child dad", ["who", "child", "dad"], ("who", "child", "dad")]:
            self.assertEqual(refused(lambda: desk.say(thing)), "NoRow")

    def test_what_is_refused_changes_nothing(self):
        asked = ["who child dad", "kin dad ann", "share dad", "settle dad 9 bob 4", "bars ann cid", "join ann cid", "joined up up", "way S of ann"]
        desk = desk_with(HOUSE + WORDS + ["bar sib", "code stand child ; class child lines 0"])
        before = [desk.say(row) for row in asked]
        for row in ("word x = :zed", "word child = F", "bar none", "code class none lines 0", "code class child lines", "union ann cid 90",
                    "born neo he 5 zed -", "dead dad 90", "settle dad -1", "born neo it 5 - -", "share ann", "way x of dad", None, ""):
            self.assertIsNotNone(refused(lambda: desk.say(row)), row)
            self.assertEqual([desk.say(one) for one in asked], before, row)
        self.assertEqual(desk.say("born zed he -5 - -"), "ok")
        self.assertEqual(desk.say("born neo he 5 zed -"), "ok")

    def test_questions_change_nothing(self):
        asked = ["who child dad", "kin dad ann", "share dad", "settle dad 9 bob 4", "bars ann cid", "join ann cid", "joined up up", "way S of ann",
                 "least F f F f", "alike F and M", "share bob"]
        desk = desk_with(HOUSE + WORDS + ["bar sib"])
        before = [desk.say(row) for row in asked]
        for turn in range(3):
            self.assertEqual([desk.say(row) for row in asked], before)

    def test_two_desks_are_two(self):
        one, other = desk_with(HOUSE + WORDS + ["bar sib", "code class up heads 0"]), Desk()
        self.assertEqual(refused(lambda: other.say("who child dad")), "NoPerson")
        self.assertEqual(refused(lambda: other.say("bar sib")), "NoWord")
        other.say("word sib = F")
        self.assertEqual(one.say("who sib cid"), "ann bob")


def drawn_row(chance, names, words):
    """Something that is often a row, and often one that is refused."""
    name, other = chance.choice(names), chance.choice(names)
    word, second = chance.choice(words), chance.choice(words)
    day, steps = chance.choice(["0", "3", "7", "9", "12", "-1"]), " ".join(chance.choices(["F", "M", "f", "m", "S", "T", "t", "he", "she"], k=3))
    share, how = chance.choice(["0", "1", "1/2", "2/4", "3/4"]), chance.choice(["heads", "lines"])
    sort, one = chance.choice(["he", "she", "-"]), chance.choice(["-", other])
    rows = [
        f"born {name} {sort} {day} {one} -", f"born {name} {sort} {day} - {one}", f"born {name} {sort} {day} - -", f"taken {name} {other} {day}",
        f"union {name} {other} {day}", f"union {other} {name} {day}", f"parted {name} {other} {day}", f"dead {name} {day}",
        f"given {name} {other} {day} {day}", f"word {word} = {steps}", f"word {word} = {steps} | :{second}", f"word {word} = {steps} other",
        f"bar {word}", f"code class {word} {how} {share}", f"code stand child ; class {word} {how} {share} ; class child lines {share}",
        f"code spouse {word} ; class {second} {how} {share} ; apart", f"who {word} {name}", f"way {steps} of {name}", f"kin {name} {other}",
        f"least {steps}", f"alike {steps} and {steps} he", f"joined {word} {second}", f"bars {name} {other}", f"join {name} {other}",
        f"share {name}", f"settle {name} {day}", f"settle {name} 5 {other} 7", f"settle {other} 3 {name} {day}",
    ]
    row = chance.choice(rows)
    if chance.random() < 0.06:
        parts = row.split(" ")
        at = chance.randrange(len(parts))
        row = " ".join(parts[:at] + chance.choice([[], ["", parts[at]], [chance.choice(["x", "-0", "01", "and", "of", "-"])]]) + parts[at + 1:])
    return row


class DrawnTest(unittest.TestCase):
    def test_desks_answer_as_the_stages_do(self):
        kinds = []
        for number in range(60):
            chance = random.Random(number)
            desk, mirror = Desk(), Mirror()
            names, words = ["a", "b", "c", "d", "e", "zed"][:chance.randrange(3, 7)], ["child", "w", "x", "y"]
            begin = ["born a he 0 - -", "born b she 0 - -", "born c she 3 a b", "born d he 3 a b", "born e - 7 d c", "word w = F f other",
                     "bar w"][:chance.randrange(8)]
            rows = begin + [drawn_row(chance, names, words) for turn in range(90)]
            for turn, row in enumerate(rows):
                told = answer(lambda: desk.say(row))
                self.assertEqual(told, mirror.say(row), (number, turn, row))
                kinds.append((row.split(" ")[0], told if told in ("ok", "yes", "no", "NoRow", "NoEntry", "Barred", "Unsure") else "told"))
        for one in (("settle", "told"), ("share", "told"), ("who", "told"), ("way", "told"), ("kin", "told"), ("bars", "told"), ("join", "yes"),
                    ("join", "no"), ("code", "ok"), ("bar", "ok"), ("word", "ok"), ("union", "ok"), ("union", "Barred"), ("least", "told"),
                    ("alike", "no"), ("joined", "told")):
            self.assertGreater(kinds.count(one), 10, one)

    def test_desks_told_entries_in_different_orders_answer_alike(self):
        for number in range(30):
            chance = random.Random(number)
            births = [f"born {name} {chance.choice(['he', 'she', '-'])} {day} - -" for day, name in enumerate("abcdef")]
            more = []
            for turn in range(14):
                name, other, day = chance.choice("abcdef"), chance.choice("abcdef"), chance.randrange(6, 12)
                more.append(chance.choice([f"taken {name} {other} {day}", f"union {name} {other} {day}", f"parted {name} {other} {day}",
                                           f"dead {name} {day}", f"given {name} {other} {turn + 1} {day}"]))
            let_in, first = [], Desk()
            for row in births + more:
                if answer(lambda: first.say(row)) == "ok":
                    let_in.append(row)
            mixed = let_in[len(births):]
            chance.shuffle(mixed)
            second = desk_with(chance.sample(births, len(births)) + mixed)
            rules = ["word wed = S", "word up = T", "bar up", "code spouse wed ; stand child ; class child lines 1/2 ; class up heads 0 ; ahead"]
            asked = [f"{word} {name} {other}" for word in ("kin", "bars", "join") for name in "abc" for other in "bcd"]
            asked += [f"who child {name}" for name in "abcdef"] + [f"share {name}" for name in "abcdef"] + ["settle a 5 b 7 c 9", "settle d 4 e 3"]
            for row in rules + asked:
                self.assertEqual(answer(lambda: first.say(row)), answer(lambda: second.say(row)), (number, row))


if __name__ == "__main__":
    unittest.main()
