"""All that documents can have under schemas, found step by step."""

from leafward.document import LABELS
from leafward.errors import TooMuch
from leafward.smallest import Leasts


class Closure:
    """What documents have under some steps: kinds, numbered in the order in which they are found.

    The steps tell the kind of the empty document (empty, which gets the number 0) and the one that follows from a
    label and two kinds (after). A rule (kind, label, inside, rest), of numbers of kinds, tells one such step. More
    than most kinds are TooMuch.
    """

    def __init__(self, steps, most):
        self.steps = steps
        self.most = most
        self.kinds = []
        self.numbers = {}
        self.rules = []
        self.number_of(steps.empty)
        self.explore()

    def number_of(self, kind):
        """The number of a kind, a new one if it has none."""
        if kind not in self.numbers:
            if len(self.kinds) == self.most:
                raise TooMuch()
            self.numbers[kind] = len(self.kinds)
            self.kinds.append(kind)
        return self.numbers[kind]

    def explore(self):
        """Join each kind with itself and, both ways round, with those found before it."""
        at = 0
        while at < len(self.kinds):
            self.join_kinds(at, at)
            for other in range(at):
                self.join_kinds(at, other)
                self.join_kinds(other, at)
            at += 1

    def join_kinds(self, inside, rest):
        """Find what follows, for each label, from the kinds of these numbers."""
        for label in range(LABELS):
            kind = self.steps.after(label, self.kinds[inside], self.kinds[rest])
            self.rules.append((self.number_of(kind), label, inside, rest))

    def least_document(self, numbers):
        """The least of all documents that have a kind of one of these numbers; TooMuch if it is beyond the bounds."""
        leasts = Leasts([number == 0 for number in range(len(self.kinds))], self.rules)
        return leasts.document(leasts.least_of(numbers))


def is_closed(steps, known):
    """Whether known, a dict, has the kind of the empty document and all that follow from the kinds in it."""
    if steps.empty not in known:
        return False
    return all(
        steps.after(label, inside, rest) in known for inside in known for rest in known for label in range(LABELS)
    )
