"""The paper of a sharing, row by row, and whether something is that paper."""

from heirbook.ratios import is_whole
from heirbook.sharing import CHEST, Estate


def paper(book, code, name, living=None):
    estate = Estate(book, code, name, living)
    number = estate.chosen()
    passed = estate.passed(estate.first())
    rows = [("none", empty) for empty in range(len(code.classes) if number is None else number)]
    if len(estate.spouses()) > 0:
        rows.append(("spouses", estate.spouses(), estate.for_spouses()))
    if number is not None:
        rows.append(("class", number, estate.takers(number), estate.rest()))
    rows.extend([("line", one, part, names) for one, part, names in passed[1]])
    if CHEST in passed[0]:
        rows.append(("chest", passed[0][CHEST]))
    return rows


def is_just(thing, wanted):
    """Whether a thing is the wanted one, kind for kind, of texts, whole numbers, and lists and tuples of these."""
    # The kind is asked first: a thing of another kind may call itself equal to anything.
    if isinstance(wanted, str):
        return isinstance(thing, str) and thing == wanted
    if isinstance(wanted, int):
        return is_whole(thing) and thing == wanted
    if isinstance(wanted, list) and not isinstance(thing, list):
        return False
    if isinstance(wanted, tuple) and not isinstance(thing, tuple):
        return False
    return len(thing) == len(wanted) and all([is_just(one, other) for one, other in zip(thing, wanted)])


def lets_by(book, code, name, some, living=None):
    return is_just(some, paper(book, code, name, living))
