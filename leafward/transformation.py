"""Transformations, which turn documents into others."""

from leafward.document import LABELS, check_document
from leafward.errors import BadTransformation
from leafward.forms import is_below, is_tuple_of
from leafward.making import Making
from leafward.schema import is_schema

MOST_STATES = 12
MOST_PARTS = 300
MOST_LEVELS = 10
MOST_LOOKS = 8


def check_transformation(m):
    """Raise BadTransformation if m is no transformation within the bounds."""
    if not is_transformation(m):
        raise BadTransformation()


def is_transformation(m):
    """Whether m, which may be anything, is a transformation within the bounds."""
    if not is_tuple_of(m, 2):
        return False
    looks, states = m
    if not is_schema(looks) or len(looks) > MOST_LOOKS:
        return False
    if not isinstance(states, tuple) or not 1 <= len(states) <= MOST_STATES:
        return False
    return all(is_state(state, len(looks)) for state in states) and are_templates(states)


def is_state(state, looks):
    """Whether state has the form of a state, for that many looks; its templates may still be anything."""
    if not is_tuple_of(state, 2) or not is_tuple_of(state[1], LABELS):
        return False
    return all(are_choices(choices, looks) for choices in state[1])


def are_choices(choices, looks):
    """Whether choices are the choices for a label; their templates may still be anything."""
    if not isinstance(choices, tuple) or not choices or not all(is_tuple_of(choice, 2) for choice in choices):
        return False
    return choices[-1][0] == -1 and all(is_below(look, looks) for look, _ in choices[:-1])


def are_templates(states):
    """Whether all that stands for a template in the states is one, with no more parts and levels than the bounds."""
    many = 0
    waiting = waiting_templates(states)
    while waiting:
        template, level, may_follow = waiting.pop()
        if not isinstance(template, tuple) or level > MOST_LEVELS:
            return False
        # The count stops the walk early: a tuple that is shared many times can stand for more parts than can be walked.
        many += len(template)
        if many > MOST_PARTS or not all(is_part(part, len(states), may_follow) for part in template):
            return False
        waiting.extend([(part[2], level + 1, may_follow) for part in template if part[0] == "node"])
    return True


def waiting_templates(states):
    """All templates of the states, each with its level and whether there may be "in" and "next" in it."""
    found = [(end, 1, False) for end, _ in states]
    for _, labels in states:
        found.extend([(template, 1, True) for choices in labels for _, template in choices])
    return found


def is_part(part, states, may_follow):
    """Whether part is a part of a template, for that many states; a template in it may still be anything."""
    if is_tuple_of(part, 3):
        return part[0] == "node" and is_below(part[1], LABELS)
    return may_follow and is_tuple_of(part, 2) and part[0] in ("in", "next") and is_below(part[1], states)


def turned(m, d):
    """The document that m turns d into; TooMuch if it has too many trees or is nested too deep."""
    check_transformation(m)
    check_document(d)
    return Making(m, d).made(0)


def made(m, state, d):
    """The document that a state of m makes of d; TooMuch if it has too many trees or is nested too deep."""
    check_transformation(m)
    check_document(d)
    return Making(m, d).made(state)
