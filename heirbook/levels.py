"""What was given ahead: the level up to which gifts are brought back in, and the parts of an amount that is left."""

from heirbook.ratios import less, minus, over, plus, times
from heirbook.sharing import NOTHING, Estate, gathered


def level_of(amount, gifts):
    """The level to which the amount brings the gifts that are below it, the smallest ones first."""
    together = amount
    reached = NOTHING
    for number, gift in enumerate(sorted(gifts)):
        if number > 0 and not less((gift, 1), reached):
            return reached
        together = plus(together, (gift, 1))
        reached = over(together, (number + 1, 1))
    return reached


def due(reached, gift):
    return minus(reached, (gift, 1)) if less((gift, 1), reached) else NOTHING


def level(amount, gifts):
    reached = level_of(amount, gifts)
    return (reached, [due(reached, gift) for gift in gifts])


def scaled(pairs, amount):
    return [(name, times(part, amount)) for name, part in pairs]


def brings_in(estate):
    """Whether gifts are looked at: the code says so, and a class takes by lines."""
    number = estate.chosen()
    return estate.code.gifts and number is not None and estate.code.classes[number][1] == "lines"


def dues_of_takers(estate, amount):
    """Pairs of what each taker is due of the amount that the class has."""
    names = estate.takers(estate.chosen())
    dues = level(amount, [estate.day_book.gave(estate.name, one) for one in names])[1]
    return list(zip(names, dues))


def parts_of(estate, amount):
    come = scaled(estate.first_of_spouses(), amount)
    if brings_in(estate):
        come.extend(dues_of_takers(estate, times(estate.rest(), amount)))
    else:
        come.extend(scaled(estate.first_of_rest(), amount))
    return estate.passed(gathered(come))[0]


def parts(book, code, name, amount, living=None):
    return parts_of(Estate(book, code, name, living), amount)
