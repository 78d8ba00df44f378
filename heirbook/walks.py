"""Whom a way leads to, and walks by it."""

from heirbook.ways import is_test


def led_by_step(book, step, name):
    """Those to whom one step of a way leads from a person."""
    if is_test(step):
        return [name] if book.sort_of(name) == step else []
    return book.step(step, name)


def layers_of(one, steps, lead):
    """For none, one, two .. of the steps, those to whom they lead from one, each with somebody from whom one comes.

    A step may be anything: lead(step, name) tells the list of those to whom it leads from a person.
    """
    layers = [{one: one}]
    for step in steps:
        came = {}
        for name in layers[-1]:
            for reached in lead(step, name):
                came[reached] = name
        layers.append(came)
    return layers


def trail(one, other, steps, lead):
    """A list of names from one to other, each step leading from each to the next; None where there is none."""
    layers = layers_of(one, steps, lead)
    if other not in layers[-1]:
        return None
    names = [other]
    for came in reversed(layers[1:]):
        names.append(came[names[-1]])
    return list(reversed(names))


def reach(book, way, name):
    # Asked for the refusal alone: the way without steps asks the book nothing.
    book.born_on(name)
    return sorted(layers_of(name, way, lambda step, begin: led_by_step(book, step, begin))[-1])


def walk(book, way, one, other):
    book.born_on(one)
    book.born_on(other)
    return trail(one, other, way, lambda step, begin: led_by_step(book, step, begin))
