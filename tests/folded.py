"""What a way asks for, found by joining people who must be one; apart from the program's own way of finding it."""

import plain


class Folded:
    """The way laid out with a new person behind each step, then all fathers, and all mothers, of one person joined.

    A way lies within another just where the other leads here from begin to end.
    """

    def __init__(self, way):
        self.same = list(range(len(way) + 1))
        self.facts = []
        for number, step in enumerate(way):
            self.facts.append(self.fact(step, number, number + 1))
        for number, step in enumerate(way):
            if step in plain.TESTS:
                self.join(number, number + 1)
        while self.join_parents():
            pass
        self.begin, self.end = self.find(0), self.find(len(way))
        self.people = sorted({self.find(number) for number in range(len(way) + 1)})
        self.sorts = self.all_sorts()
        self.never = any(len(sorts) > 1 for sorts in self.sorts.values())

    def fact(self, step, one, other):
        """Each fact from the child, or told as it stands; S and tests have no side."""
        return (step.upper(), other, one) if step in ("f", "m", "t") else (step, one, other)

    def find(self, number):
        while self.same[number] != number:
            number = self.same[number]
        return number

    def join(self, one, other):
        self.same[max(self.find(one), self.find(other))] = min(self.find(one), self.find(other))

    def join_parents(self):
        parents = {}
        for kind, one, other in self.facts:
            if kind in ("F", "M"):
                key = (kind, self.find(one))
                if key in parents and self.find(parents[key]) != self.find(other):
                    self.join(parents[key], other)
                    return True
                parents[key] = other
        return False

    def all_sorts(self):
        sorts = {number: set() for number in self.people}
        for kind, one, other in self.facts:
            if kind in ("F", "M"):
                sorts[self.find(other)].add("he" if kind == "F" else "she")
            if kind in plain.TESTS:
                sorts[self.find(one)].add(kind)
        return sorts

    def count(self, kind):
        return len({frozenset([self.find(one), self.find(other)]) for fact, one, other in self.facts if fact == kind})

    def table(self):
        """Where each letter and test leads, as plain.steps_of tells it of entries."""
        table = {(step, name): set() for step in plain.STEPS for name in self.people}
        for kind, one, other in self.facts:
            one, other = self.find(one), self.find(other)
            if kind == "S":
                table["S", one].add(other)
                table["S", other].add(one)
            elif kind in ("F", "M", "T"):
                table[kind, one].add(other)
                table[kind.lower(), other].add(one)
        for name in self.people:
            for sort in self.sorts[name]:
                table[sort, name].add(name)
        return table


def is_within(one, other):
    """3.1, by the one way folded."""
    folded = Folded(one)
    return folded.never or folded.end in plain.reach(folded.table(), other, folded.begin)
