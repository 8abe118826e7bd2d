"""Schemas that are made of two schemas."""

from leafward.closing import Closure
from leafward.comparing import is_bad
from leafward.document import LABELS
from leafward.errors import TooMuch
from leafward.schema import MOST_RULES, MOST_STATES, check_schema, is_schema
from leafward.stepping import Both, rules_of
from leafward.telling import schema_of

MOST_REST_PAIRS = 13


def added(s, t):
    """A schema that allows what s or t allows; TooMuch if it would be beyond the bounds.

    Behind its first state it has those of s, then those of t.
    """
    check_schema(s)
    check_schema(t)
    left = moved_states(s, 1)
    right = moved_states(t, 1 + len(s))
    first = (s[0][0] or t[0][0], tuple(sorted(left[0][1] + right[0][1])))
    found = (first,) + left + right
    # It has the form of a schema, so only the bounds are asked about.
    if not is_schema(found):
        raise TooMuch()
    return found


def moved_states(schema, by):
    """The states of a schema, with numbers that are by more than they were."""
    return tuple([(ends, tuple([(a, x + by, y + by) for a, x, y in rules])) for ends, rules in schema])


def meet(s, t):
    """A schema that allows what s and t both allow; TooMuch if it would be beyond the bounds.

    It has a state for each state q of s and each state r of t, with the number q times the states of t, and r.
    """
    check_schema(s)
    check_schema(t)
    if len(s) * len(t) > MOST_STATES or many_met_rules(s, t) > MOST_RULES:
        raise TooMuch()
    return tuple([(ends and too, met_rules(rules, more, len(t))) for ends, rules in s for too, more in t])


def many_met_rules(s, t):
    """How many rules the meet of s and t has: one for each two rules with the same label."""
    return sum([left * right for left, right in zip(many_by_label(s), many_by_label(t))])


def many_by_label(schema):
    """For each label how many rules the schema has."""
    labels = [rule[1] for rule in rules_of(schema)]
    return [labels.count(label) for label in range(LABELS)]


def met_rules(rules, more, many):
    """The rules of the meet of two states, the second one being of a schema of that many states."""
    found = [(a, x * many + v, y * many + w) for a, x, y in rules for b, v, w in more if a == b]
    return tuple(sorted(found))


def without(s, t):
    """A schema that allows what s allows and t does not; TooMuch if they make too many pairs of sets."""
    check_schema(s)
    check_schema(t)
    closure = Closure(Both(s, t), MOST_REST_PAIRS)
    return schema_of(closure, [number for number, pair in enumerate(closure.kinds) if is_bad(pair)])
