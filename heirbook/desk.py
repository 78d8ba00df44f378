"""The desk: rows of words, told one at a time, each answered with a text."""

from heirbook.bars import bars, let_in, may_join
from heirbook.book import Book
from heirbook.codes import Code, is_written
from heirbook.entries import has_form
from heirbook.errors import NoRow, Unsure
from heirbook.joined import word_of
from heirbook.kin import kin, who
from heirbook.least import alike, least
from heirbook.nights import settled
from heirbook.sharing import CHEST, shares
from heirbook.tongues import Tongue
from heirbook.walks import reach
from heirbook.ways import read_way, show_way

# Stands where no sort, no father or no mother is told, and for the chest.
DASH = "-"


def is_number(word):
    return word == "0" or is_written(word[1:] if word.startswith("-") else word)


def is_any(word):
    return True


def is_told_sort(word):
    return word in ("he", "she", DASH)


def has_words(words):
    return len(words) > 0


def is_way_of(words):
    return len(words) > 2 and words[-2] == "of"


def is_way_and_way(words):
    return "and" in words[1:-1] and words[0] != "and"


def is_holdings(words):
    names = words[0::2]
    amounts = words[1::2]
    if len(words) == 0 or len(names) != len(amounts) or len(set(names)) != len(names):
        return False
    return all([is_number(amount) for amount in amounts])


# What may stand behind the first word: word by word, or all of it looked at together.
FORMS = {
    "born": (is_any, is_told_sort, is_number, is_any, is_any),
    "taken": (is_any, is_any, is_number),
    "union": (is_any, is_any, is_number),
    "parted": (is_any, is_any, is_number),
    "dead": (is_any, is_number),
    "given": (is_any, is_any, is_number, is_number),
    "bar": (is_any,),
    "who": (is_any, is_any),
    "kin": (is_any, is_any),
    "joined": (is_any, is_any),
    "bars": (is_any, is_any),
    "join": (is_any, is_any),
    "share": (is_any,),
}
LOOSE_FORMS = {
    "word": has_words,
    "code": has_words,
    "way": is_way_of,
    "least": has_words,
    "alike": is_way_and_way,
    "settle": is_holdings,
}


def is_row(words):
    if words[0] in FORMS:
        return has_form(words[1:], FORMS[words[0]])
    return words[0] in LOOSE_FORMS and LOOSE_FORMS[words[0]](words[1:])


def words_of(row):
    if not isinstance(row, str) or "\n" in row:
        raise NoRow("a row is a text without a line feed")
    words = row.split(" ")
    if "" in words or not is_row(words):
        raise NoRow("it is none of the desk's rows")
    return words


def told(word):
    return "" if word == DASH else word


def entry_of(words):
    if words[0] == "born":
        return ("born", words[1], told(words[2]), int(words[3]), told(words[4]), told(words[5]))
    if words[0] == "given":
        return ("given", words[1], words[2], int(words[3]), int(words[4]))
    return tuple(words[:-1]) + (int(words[-1]),)


def show_part(part):
    top = part[0]
    bottom = part[1]
    return f"{top}" if bottom == 1 else f"{top}/{bottom}"


def show_parts(parts):
    shown = []
    for name, part in parts.items():
        shown.append((DASH if name == CHEST else name) + " " + show_part(part))
    return "; ".join(shown)


def yes_or_no(truth):
    return "yes" if truth else "no"


def put_entry(desk, words):
    let_in(desk.book, desk.tongue, desk.barring, entry_of(words))
    return "ok"


def put_word(desk, words):
    desk.tongue = Tongue(desk.tongue.text() + "\n" + " ".join(words[1:]))
    return "ok"


def put_bar(desk, words):
    # Asked for the refusal alone.
    desk.tongue.row_of(words[1])
    desk.barring.append(words[1])
    return "ok"


def put_code(desk, words):
    desk.code = Code(desk.tongue, " ".join(words[1:]).replace(" ; ", "\n"))
    return "ok"


def tell_who(desk, words):
    return " ".join(who(desk.book, desk.tongue, words[1], words[2]))


def tell_way(desk, words):
    return " ".join(reach(desk.book, read_way(" ".join(words[1:-2])), words[-1]))


def tell_kin(desk, words):
    return " ".join([pair[1] for pair in kin(desk.book, [desk.tongue], words[1], words[2])])


def tell_least(desk, words):
    way = least(read_way(" ".join(words[1:])))
    return "never" if way is None else show_way(way)


def tell_alike(desk, words):
    middle = words.index("and")
    one = read_way(" ".join(words[1:middle]))
    other = read_way(" ".join(words[middle + 1:]))
    return yes_or_no(alike(one, other))


def tell_joined(desk, words):
    return " ".join(word_of(desk.tongue, words[1], words[2]))


def tell_bars(desk, words):
    found = bars(desk.book, desk.tongue, desk.barring, words[1], words[2])
    return "; ".join([" ".join(bar) for bar in found])


def tell_join(desk, words):
    return yes_or_no(may_join(desk.book, desk.tongue, desk.barring, words[1], words[2]))


def tell_share(desk, words):
    return show_parts(shares(desk.book, desk.code, words[1]))


def tell_settle(desk, words):
    holdings = {}
    for name, amount in zip(words[1::2], words[2::2]):
        holdings[name] = (int(amount), 1)
    try:
        return show_parts(settled(desk.book, desk.code, holdings))
    except Unsure as refusal:
        day = refusal.day
        return f"unsure {day}"


ANSWERS = {
    "born": put_entry,
    "taken": put_entry,
    "union": put_entry,
    "parted": put_entry,
    "dead": put_entry,
    "given": put_entry,
    "word": put_word,
    "bar": put_bar,
    "code": put_code,
    "who": tell_who,
    "way": tell_way,
    "kin": tell_kin,
    "least": tell_least,
    "alike": tell_alike,
    "joined": tell_joined,
    "bars": tell_bars,
    "join": tell_join,
    "share": tell_share,
    "settle": tell_settle,
}


class Desk:
    def __init__(self):
        self.book = Book()
        self.tongue = Tongue("child = f | m | t")
        self.barring = []
        self.code = Code(self.tongue, "class child lines 0")

    def say(self, row):
        words = words_of(row)
        return ANSWERS[words[0]](self, words)
