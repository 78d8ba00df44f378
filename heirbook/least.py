"""Whether a way lies within another, where two ways part, and the least of all ways that are alike."""

from heirbook.trees import LETTER_UP, book_of
from heirbook.walks import reach
from heirbook.ways import is_test


def leads_there(told, way):
    """Whether the way joins the two people of a tuple (book, one, other)."""
    return told[2] in reach(told[0], way, told[1])


def within(one, other):
    # The book of a way has no more than the way asks for: what leads there leads wherever the way does.
    told = book_of(one)
    return told is None or leads_there(told, other)


def alike(one, other):
    return within(one, other) and within(other, one)


def parted(one, other):
    for way, against in ((one, other), (other, one)):
        told = book_of(way)
        if told is not None and not leads_there(told, against):
            return told
    return None


def loop_end(way, begin):
    """The number of the step that comes back across the step down to a child at begin; None where none does.

    Nobody has two fathers or two mothers, so F comes back across f, and M across m. Across any other step no step is
    sure to come back: there may be several children, takers and unions.
    """
    waiting = []
    for number in range(begin, len(way)):
        step = way[number]
        if step in LETTER_UP:
            waiting.append(LETTER_UP[step])
        elif len(waiting) == 0 or (not is_test(step) and step != waiting[-1]):
            return None
        elif not is_test(step):
            waiting.pop()
            if len(waiting) == 0:
                return number
    return None


def without(way, number):
    """The way without the test at number, or without the loop that begins there; None where neither is there."""
    end = number if is_test(way[number]) else loop_end(way, number)
    if end is None:
        return None
    return way[:number] + way[end + 1:]


def thinned(way):
    """A way that is no never, without the tests and loops that the rest of it asks for anyhow.

    One look at each is enough: what is left out is asked for by what stays, so that nothing else becomes needless.
    And no way that is alike has fewer steps: it too must go across each of those bonds that are left, twice where
    it comes back, and past each of those tests.
    """
    number = 0
    while number < len(way):
        shorter = without(way, number)
        if shorter is not None and within(shorter, way):
            way = shorter
        else:
            number += 1
    return way


def in_order(loops):
    steps = []
    for loop in sorted(loops):
        steps.extend(loop)
    return steps


def arranged(way):
    """A thinned way with the loops that begin at one person in the order of tuples, and so within each loop.

    That is the first of all orders, as no loop is the beginning of another one. No test stands between two loops:
    the loops tell the sort of the person anyhow.
    """
    steps = []
    loops = []
    number = 0
    while number < len(way):
        end = loop_end(way, number)
        if end is None:
            steps = steps + in_order(loops) + [way[number]]
            loops = []
            number += 1
        else:
            loops.append((way[number],) + arranged(way[number + 1:end]) + (way[end],))
            number = end + 1
    return tuple(steps + in_order(loops))


def least(way):
    if book_of(way) is None:
        return None
    return arranged(thinned(way))
