"""Questions about the form of values that may be anything."""


def is_below(worth, limit):
    """Whether worth is a whole number from 0 to limit - 1; a truth value is none."""
    return isinstance(worth, int) and not isinstance(worth, bool) and 0 <= worth < limit


def is_tuple_of(worth, many):
    """Whether worth is a tuple of that many items."""
    return isinstance(worth, tuple) and len(worth) == many


def is_rising(row):
    """Whether each item of row is less than the one behind it."""
    return all(row[at - 1] < row[at] for at in range(1, len(row)))


def is_set(states, many):
    """Whether states is a strictly rising tuple of states of a schema of that many states."""
    return isinstance(states, tuple) and all(is_below(state, many) for state in states) and is_rising(states)
