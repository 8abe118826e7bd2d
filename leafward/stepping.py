"""How the sets of documents under schemas follow from one another.

A set of states is kept as a number here, bit q standing for state q: to ask whether two sets share a state is one
operation then, however many states there are.
"""

from leafward.document import LABELS


class Steps:
    """The steps from the sets of the children and of the rest to the set of a document, under one schema.

    Each step is kept, as the same few sets meet one another again and again.
    """

    def __init__(self, schema):
        self.empty = ends_of(schema)
        self.rules = rules_by_label(schema)
        self.rows = {}
        self.steps = {}

    def after(self, label, inside, rest):
        """The set that follows from a label, the set of the children and that of the rest."""
        asked = (label, inside, rest)
        if asked not in self.steps:
            found = 0
            for state, wanted in self.row(label, inside):
                if wanted & rest:
                    found = found | 1 << state
            self.steps[asked] = found
        return self.steps[asked]

    def row(self, label, inside):
        """The states that have a rule for the label and children of the set inside, each with all it wants as rest."""
        asked = (label, inside)
        if asked not in self.rows:
            self.rows[asked] = row_of(self.rules[label], inside)
        return self.rows[asked]


class Both:
    """Two schemas at once: what a document has under them is the pair of its sets."""

    def __init__(self, s, t):
        self.left = Steps(s)
        self.right = Steps(t)
        self.empty = (self.left.empty, self.right.empty)

    def after(self, label, inside, rest):
        """The pair that follows from a label, the pair of the children and that of the rest."""
        return (self.left.after(label, inside[0], rest[0]), self.right.after(label, inside[1], rest[1]))


def kind_of(steps, d):
    """What a document has under some steps."""
    found = steps.empty
    for label, kids in reversed(d):
        found = steps.after(label, kind_of(steps, kids), found)
    return found


def bits_of(states):
    """The number that stands for the set of the states, none of which comes twice."""
    return sum([1 << state for state in states])


def states_of(bits):
    """The strictly rising tuple of the states of the set that bits stands for."""
    return tuple([state for state in range(bits.bit_length()) if bits >> state & 1])


def ends_of(schema):
    """The set of the states of a schema that allow the empty document."""
    return bits_of([state for state, (ends, _) in enumerate(schema) if ends])


def rules_of(schema):
    """All rules of a schema, each with its state in front."""
    return [(state, *rule) for state, (_, rules) in enumerate(schema) for rule in rules]


def rules_by_label(schema):
    """For each label the list of its rules (state, inside, next)."""
    found = [[] for _ in range(LABELS)]
    for state, label, inside, behind in rules_of(schema):
        found[label].append((state, inside, behind))
    return found


def row_of(rules, inside):
    """The states that have a rule for the set inside, each with the set of all that it wants as rest."""
    wanted = {}
    for state, kids, behind in rules:
        if inside >> kids & 1:
            wanted[state] = wanted.get(state, 0) | 1 << behind
    return list(wanted.items())
