"""What is held in the end: days of death one after another, and nights in which several die."""

from heirbook.errors import NoNumber, TooMany, Unsure
from heirbook.levels import parts_of
from heirbook.ratios import common_divisor, is_whole
from heirbook.sharing import NOTHING, Estate, gathered

MOST_DEAD = 4


def is_holding(thing):
    """Whether a thing is a fraction from (0, 1) on."""
    if not isinstance(thing, tuple) or len(thing) != 2 or not is_whole(thing[0]) or not is_whole(thing[1]):
        return False
    return thing[0] >= 0 and thing[1] >= 1 and common_divisor(thing[0], thing[1]) == 1


def look_through(book, holdings):
    """Refuses holdings of nobody's, then those that are no fractions from (0, 1) on."""
    for name in holdings:
        book.born_on(name)
    if not all([is_holding(part) for part in holdings.values()]):
        raise NoNumber("what is held is a fraction from (0, 1) on")


def nights_of(book):
    """A dict from days on which somebody dies, in their order, to sorted lists of the dead."""
    dead = [name for name in book.people() if book.dead_on(name) is not None]
    nights = {}
    for day in sorted([book.dead_on(name) for name in dead]):
        nights[day] = [name for name in dead if book.dead_on(name) == day]
    return nights


def orders_of(names):
    if len(names) == 0:
        return [[]]
    orders = []
    for name in names:
        others = [other for other in names if other != name]
        orders.extend([[name] + order for order in orders_of(others)])
    return orders


def held_after(estates, living, apart, order, held):
    """What is held when the dead of a night have left what they held, one after another in the order."""
    for number, name in enumerate(order):
        # Apart, nobody of the night takes of another: so the order is of no weight then.
        estates[name].let_live(living if apart else living + order[number + 1:])
        left = dict(held)
        amount = left.pop(name, NOTHING)
        held = gathered(list(left.items()) + list(parts_of(estates[name], amount).items()))
    return held


def after_night(book, code, day, dead, held):
    if len(dead) > MOST_DEAD and not code.apart:
        raise TooMany("more than 4 died in one night, and the code does not hold them apart")
    estates = {}
    for name in dead:
        estates[name] = Estate(book, code, name)
    living = estates[dead[0]].living()
    orders = [dead] if code.apart else orders_of(dead)
    first = held_after(estates, living, code.apart, orders[0], held)
    for order in orders[1:]:
        other = held_after(estates, living, code.apart, order, held)
        if other != first:
            raise Unsure(day, [orders[0], order], [first, other])
    return first


def settled(book, code, holdings):
    look_through(book, holdings)
    held = gathered(list(holdings.items()))
    for day, dead in nights_of(book).items():
        held = after_night(book, code, day, dead, held)
    return held
