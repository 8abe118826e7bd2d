"""Whether schemas are within one another, with papers that tell it."""

from leafward.closing import Closure, is_closed
from leafward.document import is_document
from leafward.forms import is_set, is_tuple_of
from leafward.schema import check_schema
from leafward.stepping import Both, bits_of, kind_of, states_of

MOST_PAIRS = 60
MOST_PAPER_PAIRS = 150


def within(s, t):
    """A paper that tells whether t allows each document that s allows; of "no" with the least document."""
    check_schema(s)
    check_schema(t)
    closure = Closure(Both(s, t), MOST_PAIRS)
    bad = [number for number, pair in enumerate(closure.kinds) if is_bad(pair)]
    if bad:
        return ("no", closure.least_document(bad))
    return ("yes", tuple([(states_of(left), states_of(right)) for left, right in closure.kinds]))


def is_bad(pair):
    """Whether documents with this pair of sets are allowed by the first schema and not by the second one."""
    return pair[0] & 1 == 1 and pair[1] & 1 == 0


def takes(s, t, paper):
    """Whether paper, which may be anything, is a paper for "s is within t" or for "s is not within t"."""
    check_schema(s)
    check_schema(t)
    if not is_tuple_of(paper, 2):
        return False
    word, told = paper
    if word == "yes":
        return are_pairs(told, s, t) and shows_within(s, t, told)
    return word == "no" and is_document(told) and is_bad(kind_of(Both(s, t), told))


def are_pairs(pairs, s, t):
    """Whether pairs is a tuple, not too long, of pairs of sets of states of s and of t."""
    if not isinstance(pairs, tuple) or len(pairs) > MOST_PAPER_PAIRS:
        return False
    return all(is_tuple_of(pair, 2) and is_set(pair[0], len(s)) and is_set(pair[1], len(t)) for pair in pairs)


def shows_within(s, t, pairs):
    """Whether the pairs hold that of the empty document and all that follow from them, and none of them is bad."""
    known = {(bits_of(left), bits_of(right)): True for left, right in pairs}
    return not any(is_bad(pair) for pair in known) and is_closed(Both(s, t), known)


def equal(s, t):
    """Whether s and t allow the same documents; TooMuch if within tells it of s and t or of t and s."""
    there = within(s, t)
    back = within(t, s)
    return there[0] == "yes" and back[0] == "yes"
