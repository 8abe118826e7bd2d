"""Schemas that are told from all that documents can have.

They are told with few states, as what is told may be handed in again.
"""

from leafward.document import LABELS


def schema_of(closure, wanted):
    """The schema that allows the documents whose kinds have one of the wanted numbers.

    State 0 stands for all classes of kinds that are wanted, each other state for a single class.
    """
    classes = classes_of(closure, wanted)
    firsts = sorted({classes[number] for number in wanted})
    groups = [firsts] + [[number] for number in range(max(classes) + 1) if [number] != firsts]
    states = {group[0]: state for state, group in enumerate(groups) if len(group) == 1}
    places = [states[number] for number in classes]
    return tuple([(classes[0] in group, rules_into(closure, places, classes, group)) for group in groups])


def rules_into(closure, places, classes, group):
    """The rules of the state for a group of classes; places tells for each kind the state for its class alone."""
    found = {
        (label, places[inside], places[rest]): True
        for kind, label, inside, rest in closure.rules
        if classes[kind] in group
    }
    return tuple(sorted(found))


def classes_of(closure, wanted):
    """For each kind the number of its class; kinds of one class can take each other's place in all documents."""
    after = {rule[1:]: rule[0] for rule in closure.rules}
    many = len(closure.kinds)
    classes = numbered([(number in wanted,) for number in range(many)])
    # Each round that parts a class makes one more of them, so that many rounds are enough.
    for _ in range(many):
        classes = numbered([look_of(number, after, classes) for number in range(many)])
    return classes


def look_of(number, after, classes):
    """The class of a kind, and those of all that follows from it and another one."""
    found = [classes[number]]
    for other in range(len(classes)):
        for label in range(LABELS):
            found.append(classes[after[(label, number, other)]])
            found.append(classes[after[(label, other, number)]])
    return tuple(found)


def numbered(looks):
    """For each of the looks a number: the same one for the same look."""
    numbers = {}
    return [numbers.setdefault(look, len(numbers)) for look in looks]
