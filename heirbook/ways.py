"""Ways: tuples of steps, letters and tests; their texts; and the way turned about."""

from heirbook.errors import NoWay

STEP_LETTERS = ("F", "M", "T", "f", "m", "t", "S")
TESTS = ("he", "she")
MOST_STEPS = 24
TURNED = {"F": "f", "M": "m", "T": "t", "f": "F", "m": "M", "t": "T"}


def is_letter(thing):
    # Only texts are compared: a thing of another kind may call itself equal to anything.
    return isinstance(thing, str) and thing in STEP_LETTERS


def is_test(thing):
    return isinstance(thing, str) and thing in TESTS


def read_way(text):
    if not isinstance(text, str):
        raise NoWay("a way is read from a text")
    if text == "":
        return ()
    steps = text.split(" ")
    if len(steps) > MOST_STEPS:
        raise NoWay("a way has at most 24 steps")
    if not all([is_letter(step) or is_test(step) for step in steps]):
        raise NoWay("a way's steps are letters and tests with one blank between")
    return tuple(steps)


def show_way(way):
    return " ".join(way)


def turned(way):
    return tuple([TURNED.get(step, step) for step in reversed(way)])
