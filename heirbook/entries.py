"""What is a name, a day, an amount, a sort, and an entry of a book; each is asked of anything."""

from heirbook.ratios import is_whole

LETTERS = "abcdefghijklmnopqrstuvwxyz"


def is_name(thing):
    if not isinstance(thing, str) or len(thing) < 1 or len(thing) > 8:
        return False
    return all([sign in LETTERS for sign in thing])


def is_day(thing):
    return is_whole(thing) and abs(thing) <= 10 ** 18


def is_amount(thing):
    return is_whole(thing) and thing >= 1 and thing <= 10 ** 18


def is_sort(thing):
    # Only texts are compared: a thing of another kind may call itself equal to anything.
    return isinstance(thing, str) and thing in ("he", "she", "")


def is_parent(thing):
    return is_name(thing) or (isinstance(thing, str) and thing == "")


# A tuple of pairs, not a dict: the first word is compared, so it need not be able to be a key.
FORMS = (
    ("born", (is_name, is_sort, is_day, is_parent, is_parent)),
    ("taken", (is_name, is_name, is_day)),
    ("union", (is_name, is_name, is_day)),
    ("parted", (is_name, is_name, is_day)),
    ("dead", (is_name, is_day)),
    ("given", (is_name, is_name, is_amount, is_day)),
)


def has_form(parts, checks):
    if len(parts) != len(checks):
        return False
    return all([check(part) for check, part in zip(checks, parts)])


def is_entry(thing):
    if not isinstance(thing, tuple) or len(thing) == 0 or not isinstance(thing[0], str):
        return False
    for word, checks in FORMS:
        if thing[0] == word:
            return has_form(thing[1:], checks)
    return False
