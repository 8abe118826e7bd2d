"""Whether transformations fit schemas, with papers that tell it, and the schemas before them."""

from leafward.closing import Closure, is_closed
from leafward.document import check_document, is_document
from leafward.forms import is_below, is_rising, is_set, is_tuple_of
from leafward.moving import Moves
from leafward.profiling import Profiles
from leafward.schema import check_schema
from leafward.stepping import kind_of
from leafward.telling import schema_of
from leafward.transformation import check_transformation

MOST_PROFILES = 60
MOST_PAPER_PROFILES = 150
MOST_TOLD_PROFILES = 13
NOTHING = ((False, ()),)


def move(t, d):
    """The strictly rising tuple of the pairs of the move of d under t."""
    check_schema(t)
    check_document(d)
    moves = Moves(t)
    return moves.pairs_of(kind_of(moves, d))


def profile(s, m, t, d):
    """The profile of d under s, m and t."""
    check_all(s, m, t)
    check_document(d)
    profiles = Profiles(s, m, t)
    return profiles.told(kind_of(profiles, d))


def check_all(s, m, t):
    """Refuse s, m and t, in this order."""
    check_schema(s)
    check_transformation(m)
    check_schema(t)


def follows(s, m, t, label, kids, rest):
    """The profile that follows from a label, the profile of the children and that of the rest."""
    check_all(s, m, t)
    profiles = Profiles(s, m, t)
    return profiles.told(profiles.after(label, profiles.kept(kids), profiles.kept(rest)))


def first_profile(s, m, t):
    """The profile of the empty document under s, m and t."""
    check_all(s, m, t)
    profiles = Profiles(s, m, t)
    return profiles.told(profiles.empty)


def fits(s, m, t):
    """A paper that tells whether m turns all that s allows into what t allows; of "no" with the least document."""
    check_all(s, m, t)
    profiles = Profiles(s, m, t)
    closure = Closure(profiles, MOST_PROFILES)
    bad = [number for number, kind in enumerate(closure.kinds) if not profiles.is_good(kind)]
    if bad:
        return ("no", closure.least_document(bad))
    return ("yes", tuple([profiles.told(kind) for kind in closure.kinds]))


def accepts(s, m, t, paper):
    """Whether paper, which may be anything, is a paper for "m fits s and t" or for "m does not fit s and t"."""
    check_all(s, m, t)
    if not is_tuple_of(paper, 2):
        return False
    word, told = paper
    profiles = Profiles(s, m, t)
    if word == "yes":
        return are_profiles(told, s, m, t) and shows_fitting(profiles, told)
    return word == "no" and is_document(told) and not profiles.is_good(kind_of(profiles, told))


def are_profiles(told, s, m, t):
    """Whether told is a tuple, not too long, of triples like profiles under s, m and t."""
    if not isinstance(told, tuple) or len(told) > MOST_PAPER_PROFILES:
        return False
    return all(is_like_profile(triple, s, m, t) for triple in told)


def is_like_profile(triple, s, m, t):
    """Whether triple has a set of s, a set of the looks of m and, for each state of m, a move under t."""
    looks, states = m
    if not is_tuple_of(triple, 3) or not is_set(triple[0], len(s)) or not is_set(triple[1], len(looks)):
        return False
    return is_tuple_of(triple[2], len(states)) and all(is_move(pairs, len(t)) for pairs in triple[2])


def is_move(pairs, many):
    """Whether pairs is a strictly rising tuple of pairs of states of a schema of that many states."""
    return isinstance(pairs, tuple) and all(is_pair(pair, many) for pair in pairs) and is_rising(pairs)


def is_pair(pair, many):
    """Whether pair is a pair of states of a schema of that many states."""
    return is_tuple_of(pair, 2) and is_below(pair[0], many) and is_below(pair[1], many)


def shows_fitting(profiles, told):
    """Whether the profiles told hold that of the empty document and all that follow from them, and all are good."""
    known = {profiles.kept(triple): True for triple in told}
    return all(profiles.is_good(kind) for kind in known) and is_closed(profiles, known)


def schema_before(m, t):
    """A schema that allows the documents that m turns into what t allows; TooMuch if they have too many profiles."""
    check_transformation(m)
    check_schema(t)
    profiles = Profiles(NOTHING, m, t)
    closure = Closure(profiles, MOST_TOLD_PROFILES)
    return schema_of(closure, [number for number, kind in enumerate(closure.kinds) if profiles.turns_right(kind)])
