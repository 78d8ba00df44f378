"""The refusals: one class for each, all under HeirError."""


def own_copy(thing):
    """A list or dict anew, so that a refusal's field stays as it was told, whatever is done to the list elsewhere."""
    if isinstance(thing, list):
        return [own_copy(part) for part in thing]
    if isinstance(thing, dict):
        return dict(thing)
    return thing


class HeirError(ValueError):
    """Any refusal."""


class NoNumber(HeirError):
    """No fraction is there: a wrong pair, or a quotient by nought."""


class NoEntry(HeirError):
    """It is no entry of a book."""


class Full(HeirError):
    """The book has no room for the entry."""


class NoPerson(HeirError):
    """The name is nobody's in the book."""


class Twice(HeirError):
    """The book has such an entry."""


class NoFit(HeirError):
    """The entry does not fit the people that it names."""


class NoWay(HeirError):
    """It is no step, or the text of no way."""


class NoTongue(HeirError):
    """It is the text of no tongue."""


class NoWord(HeirError):
    """It is no word of the tongue."""


class Marked(HeirError):
    """The word has a mark, so no ways tell it."""


class TooMany(HeirError):
    """There are more ways, steps or dead than are looked at."""


class Barred(HeirError):
    """Bars stand between two who would join; the field bars tells them."""

    def __init__(self, bars):
        self.bars = own_copy(bars)


class NoCode(HeirError):
    """It is the text of no code for the tongue."""


class Alive(HeirError):
    """The person has no death in the book."""


class Unsure(HeirError):
    """Two orders of a night's dead part: the day, both orders, and what is held after each of them."""

    def __init__(self, day, orders, holdings):
        self.day = day
        self.orders = own_copy(orders)
        self.holdings = own_copy(holdings)


class NoRow(HeirError):
    """It is no row that the desk knows."""
