"""The least documents that states allow."""

from leafward.document import MOST_NESTED, MOST_TREES
from leafward.errors import TooMuch


class Leasts:
    """The least document of each state.

    ends tells for each state whether it allows the empty document; a rule is (state, label, inside, rest). Of the
    least documents only the first rules are kept, and documents are built when they are asked for: the size of the
    least one can double from state to state.
    """

    def __init__(self, ends, rules):
        self.sizes = least_sizes(ends, rules)
        self.orders = [[many] for many in self.sizes]
        self.depths = [0 for _ in ends]
        self.firsts = [None for _ in ends]
        self.choose(rules)

    def choose(self, rules):
        """Choose the first rule of each state whose least document is not too large."""
        fitting = fitting_rules(rules, self.sizes)
        # A rule of a least document leads to states with smaller ones, so these are chosen earlier.
        for _, state in sorted([(self.sizes[state], state) for state in fitting]):
            self.choose_first(state, fitting[state])

    def choose_first(self, state, rules):
        """Choose the rule whose document is the least; the sizes are the same already."""
        label, inside_order, rest_order, inside, rest = min(
            [(label, self.orders[inside], self.orders[rest], inside, rest) for label, inside, rest in rules]
        )
        self.firsts[state] = (label, inside, rest)
        self.orders[state] = [self.sizes[state], label] + inside_order + rest_order[1:]
        self.depths[state] = max(1 + self.depths[inside], self.depths[rest])

    def has_any(self, state):
        """Whether the state allows any document."""
        return self.sizes[state] is not None

    def least_of(self, states):
        """The state, of some that allow a document, whose least document is the least."""
        return min(states, key=lambda state: self.orders[state])

    def document(self, state):
        """The least document of a state that allows one; TooMuch if it is beyond the bounds."""
        if self.sizes[state] > MOST_TREES or self.depths[state] > MOST_NESTED:
            raise TooMuch()
        return self.build(state)

    def build(self, state):
        """The least document of a state, which is known to be within the bounds."""
        trees = []
        while self.firsts[state] is not None:
            label, inside, rest = self.firsts[state]
            trees.append((label, self.build(inside)))
            state = rest
        return tuple(trees)


def least_sizes(ends, rules):
    """For each state the size of its least document, None if it allows none."""
    sizes = [0 if end else None for end in ends]
    changed = True
    # A least document never has a state within itself again, so this ends after as many rounds as there are states.
    while changed:
        changed = False
        for state, _, inside, rest in rules:
            many = size_by(sizes, inside, rest)
            if many is not None and (sizes[state] is None or many < sizes[state]):
                sizes[state] = many
                changed = True
    return sizes


def size_by(sizes, inside, rest):
    """The least size that a rule gives, None if it gives no document."""
    if sizes[inside] is None or sizes[rest] is None:
        return None
    return 1 + sizes[inside] + sizes[rest]


def fitting_rules(rules, sizes):
    """The rules that give documents of the least size, for each state where this is not too large."""
    found = {}
    for state, label, inside, rest in rules:
        many = size_by(sizes, inside, rest)
        if many is not None and many == sizes[state] and many <= MOST_TREES:
            found.setdefault(state, []).append((label, inside, rest))
    return found
