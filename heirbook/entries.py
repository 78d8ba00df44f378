"""What is a name, a day, an amount, a sort and an entry, asked of anything; and what an entry names, and its day."""

from heirbook.ratios import is_whole

LETTERS = "abcdefghijklmnopqrstuvwxyz"


def is_name(thing):
    if not isinstance(thing, str) or len(thing) < 1 or len(thing) > 8:
        return False
    return all([sign in LETTERS for sign in thing])


def is_day(thing):
    return is_whole(thing) and abs(thing) <= 10 ** 18


def is_amount(thing):
    return is_whole(thing) and thing >= 1 and thing <= 10 ** 18


def is_sort(thing):
    # Only texts are compared: a thing of another kind may call itself equal to anything.
    return isinstance(thing, str) and thing in ("he", "she", "")


def is_parent(thing):
    return is_name(thing) or (isinstance(thing, str) and thing == "")


# A tuple of pairs, not a dict: the first word is compared, so it need not be able to be a key.
FORMS = (
    ("born", (is_name, is_sort, is_day, is_parent, is_parent)),
    ("taken", (is_name, is_name, is_day)),
    ("union", (is_name, is_name, is_day)),
    ("parted", (is_name, is_name, is_day)),
    ("dead", (is_name, is_day)),
    ("given", (is_name, is_name, is_amount, is_day)),
)


def has_form(parts, checks):
    if len(parts) != len(checks):
        return False
    return all([check(part) for check, part in zip(checks, parts)])


def is_entry(thing):
    if not isinstance(thing, tuple) or len(thing) == 0 or not isinstance(thing[0], str):
        return False
    for word, checks in FORMS:
        if thing[0] == word:
            return has_form(thing[1:], checks)
    return False


def is_tie(entry):
    """Whether an entry is of the union of two: that it begins, or that it ends."""
    return entry[0] in ("union", "parted")


def named_in(entry):
    """Those who must have a birth for the entry to be let in."""
    if entry[0] == "born":
        return [name for name in entry[4:] if name != ""]
    if entry[0] == "dead":
        return [entry[1]]
    return [entry[1], entry[2]]


def day_of(entry):
    if entry[0] == "born":
        return entry[3]
    return entry[-1]


def as_told(entry):
    """The entry as a book tells it: of a union or parting the name first that comes first."""
    if not is_tie(entry):
        return entry
    names = sorted(entry[1:3])
    return (entry[0], names[0], names[1], entry[3])


def key_of(entry):
    """What no two entries of one book share."""
    if entry[0] in ("born", "dead"):
        return (entry[0], entry[1])
    if entry[0] == "taken":
        return (entry[0], entry[1], entry[2])
    if entry[0] == "given":
        return (entry[0], entry[1], entry[2], entry[4])
    # One word for both: on one day two have a union or a parting, never both.
    return ("tie",) + as_told(entry)[1:]
