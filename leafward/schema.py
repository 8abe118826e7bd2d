"""Schemas: tuples of states, which tell the documents that are right."""

from leafward.document import LABELS, check_document
from leafward.errors import BadSchema, TooMuch
from leafward.forms import is_below, is_rising, is_tuple_of
from leafward.smallest import Leasts
from leafward.stepping import Steps, kind_of, rules_of, states_of

MOST_STATES = 60
MOST_RULES = 2000
MOST_SETS = 300


def check_schema(s):
    """Raise BadSchema if s is no schema within the bounds."""
    if not is_schema(s):
        raise BadSchema()


def is_schema(s):
    """Whether s, which may be anything, is a schema within the bounds."""
    if not isinstance(s, tuple) or not 1 <= len(s) <= MOST_STATES:
        return False
    if not all(is_state(state, len(s)) for state in s):
        return False
    return sum([len(rules) for _, rules in s]) <= MOST_RULES


def is_state(state, many):
    """Whether state is a state of a schema of that many states."""
    return is_tuple_of(state, 2) and isinstance(state[0], bool) and are_rules(state[1], many)


def are_rules(rules, many):
    """Whether rules is a strictly rising tuple of rules of a schema of that many states."""
    return isinstance(rules, tuple) and all(is_rule(rule, many) for rule in rules) and is_rising(rules)


def is_rule(rule, many):
    """Whether rule is a rule of a schema of that many states."""
    return is_tuple_of(rule, 3) and is_below(rule[0], LABELS) and is_below(rule[1], many) and is_below(rule[2], many)


def allows(s, d):
    """Whether the schema allows the document."""
    return 0 in set_of(s, d)


def set_of(s, d):
    """The strictly rising tuple of the states of s that allow d."""
    check_schema(s)
    check_document(d)
    return states_of(kind_of(Steps(s), d))


def least(s):
    """The least document that s allows, None if it allows none; TooMuch if it is beyond the bounds."""
    check_schema(s)
    leasts = Leasts([ends for ends, _ in s], rules_of(s))
    return leasts.document(0) if leasts.has_any(0) else None


def counted(s, most):
    """The list of the numbers of documents that s allows, for each size from 0 to most."""
    check_schema(s)
    tally = Tally(Steps(s))
    for _ in range(most):
        tally.grow()
    return [tally.allowed(at) for at in range(most + 1)]


class Tally:
    """For each size so far, how many documents have which set; more different sets than the bound are TooMuch."""

    def __init__(self, steps):
        self.steps = steps
        self.sizes = [{steps.empty: 1}]
        self.sets = {steps.empty: True}

    def allowed(self, at):
        """How many documents of the size at are allowed by state 0."""
        return sum([many for found, many in self.sizes[at].items() if found & 1])

    def grow(self):
        """Go on to the next size, which is 1 and the sizes of the children and of the rest."""
        grown = {}
        for (inside, rest), many in self.pairs().items():
            for label in range(LABELS):
                found = self.steps.after(label, inside, rest)
                if found not in grown:
                    self.note(found)
                grown[found] = grown.get(found, 0) + many
        self.sizes.append(grown)

    def pairs(self):
        """For each two sets, in how many ways children and rest have them and make a document of the next size."""
        found = {}
        for at, by_inside in enumerate(self.sizes):
            by_rest = self.sizes[len(self.sizes) - 1 - at]
            for inside, many in by_inside.items():
                for rest, more in by_rest.items():
                    found[(inside, rest)] = found.get((inside, rest), 0) + many * more
        return found

    def note(self, found):
        """Keep a set in mind."""
        self.sets[found] = True
        if len(self.sets) > MOST_SETS:
            raise TooMuch()
