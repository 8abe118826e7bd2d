"""Plain readings of sections 3 and 5 of the document, and transformations that the tests share.

Nothing here is taken from the package: what it returns is held against these readings.
"""

from tests import plain

LABELS = range(5)
ONE_LOOK = ((False, ()),)


# Transformations


def node(label, *parts):
    return ("node", label, parts)


def inner(state=0):
    return ("in", state)


def behind(state=0):
    return ("next", state)


def plainly(*states, looks=ONE_LOOK):
    """A transformation without choices: of each state the end, and a function from the label to the template."""
    return (looks, tuple((end, tuple(((-1, make(label)),) for label in LABELS)) for end, make in states))


def choosing(looks, *states):
    """A transformation: of each state the end, and a function from the label to the choices."""
    return (looks, tuple((end, tuple(make(label) for label in LABELS)) for end, make in states))


KEEP = plainly(((), lambda a: (node(a, inner()), behind())))
DROP_ALL = plainly(((), lambda a: ()))
DROP_ZEROS = plainly(((), lambda a: (behind(),) if a == 0 else (node(a, inner()), behind())))
OPEN_ZEROS = plainly(((), lambda a: (inner(), behind()) if a == 0 else (node(a, inner()), behind())))
DOUBLE = plainly(((), lambda a: (node(a, inner()), node(a, inner()), behind())))
WRAP = plainly(((), lambda a: (node(4, node(a, inner())), behind())))
TURN_ROUND = plainly(((), lambda a: (behind(), node(a, inner()))))
NEST = plainly(((), lambda a: (node(a, inner(), behind()),)))
SWAP = plainly(((), lambda a: (node(a, behind()), inner())))
# Each tree doubles what is made of those behind it, and a tree 1 adds a tree.
BINARY = plainly(((), lambda a: (behind(), behind()) + (node(0),) * (a == 1)))
# The children of the trees, one level more being dropped by each state.
LEVELS = plainly(
    ((), lambda a: (node(a, inner(1)), behind(0))),
    ((node(3),), lambda a: (behind(1), node(a, inner(2), node(2)))),
    ((node(1, node(2)), node(0)), lambda a: (behind(2),)),
)
# Trees are kept if they have children, and get the label 3 if they have none.
LEAVES = choosing(
    ((True, ()),),
    ((), lambda a: ((0, (node(3), behind())), (-1, (node(a, inner()), behind())))),
)
# Trees whose children are all 0 without children are opened; those in which all labels are 0 or 1 are dropped.
TWO_LOOKS = choosing(
    ((True, ((0, 1, 0),)), (True, ()), (True, ((0, 2, 2), (1, 2, 2)))),
    ((), lambda a: ((1, (node(a), behind())), (0, (inner(), behind())), (2, (behind(1),)), (-1, (node(4, inner(1)),)))),
    ((node(2),), lambda a: ((2, (inner(0), behind(1))), (0, (node(1),)), (-1, (node(a, behind(0), inner(0)),)))),
)

SHARED = (
    KEEP, DROP_ALL, DROP_ZEROS, OPEN_ZEROS, DOUBLE, WRAP, TURN_ROUND, NEST, SWAP, BINARY, LEVELS, LEAVES, TWO_LOOKS,
)


def random_template(rng, states, most, may_follow=True, level=1):
    parts = []
    for _ in range(rng.randrange(most + 1)):
        word = rng.choice(("node", "in", "next", "next") if may_follow else ("node",))
        if word != "node":
            parts.append((word, rng.randrange(states)))
        elif level < 3:
            parts.append(("node", rng.randrange(2), random_template(rng, states, most - 1, may_follow, level + 1)))
    return tuple(parts)


def random_choices(rng, looks, states, most):
    found = [(rng.randrange(looks), random_template(rng, states, most)) for _ in range(rng.randrange(3))]
    return tuple(found) + ((-1, random_template(rng, states, most)),)


def random_transformation(rng, states=2, looks=2, most=2):
    schema = plain.random_schema(rng, looks, 2 * looks, (0, 1))
    found = []
    for _ in range(states):
        end = random_template(rng, states, 1, may_follow=False)
        found.append((end, tuple(random_choices(rng, looks, states, most) for _ in LABELS)))
    return (schema, tuple(found))


# [3.3]


def plain_made(m, state, d):
    """[3.3], word by word."""
    looks, states = m
    end, choices = states[state]
    if not d:
        return plain_parts(m, end, (), ())
    (label, kids), rest = d[0], d[1:]
    allowing = plain.plain_set(looks, kids)
    template = next(template for look, template in choices[label] if look == -1 or look in allowing)
    return plain_parts(m, template, kids, rest)


def plain_parts(m, template, kids, rest):
    found = ()
    for part in template:
        if part[0] == "node":
            found += ((part[1], plain_parts(m, part[2], kids, rest)),)
        elif part[0] == "in":
            found += plain_made(m, part[1], kids)
        else:
            found += plain_made(m, part[1], rest)
    return found


def plain_turned(m, d):
    return plain_made(m, 0, d)


def depth(d):
    return max((1 + depth(kids) for _, kids in d), default=0)


# [5.2], [5.3]


def plain_move(t, d):
    """[5.2], word by word, as a set of pairs."""
    if not d:
        return {(q, q) for q in range(len(t))}
    kids, rest = plain.plain_set(t, d[0][1]), plain_move(t, d[1:])
    return {
        (q, r) for q in range(len(t)) for a, x, y in t[q][1] if a == d[0][0] and x in kids for z, r in rest if z == y
    }


def plain_profile(s, m, t, d):
    """[5.3], word by word, as fits writes it."""
    return (
        plain.plain_pair(s, m[0], d)[0],
        plain.plain_pair(m[0], s, d)[0],
        tuple(tuple(sorted(plain_move(t, plain_made(m, state, d)))) for state in range(len(m[1]))),
    )


def moves_of_parts(m, t, template, kids, rest):
    """The move of what a template makes, from the moves of what the states make of the children and of the rest."""
    found = {(q, q) for q in range(len(t))}
    for part in template:
        if part[0] == "node":
            inside = moves_of_parts(m, t, part[2], kids, rest)
            allowing = {q for q, r in inside if t[r][0]}
            more = {(q, y) for q in range(len(t)) for a, x, y in t[q][1] if a == part[1] and x in allowing}
        else:
            more = (kids if part[0] == "in" else rest)[part[1]]
        found = {(q, r) for q, z in found for w, r in more if z == w}
    return found


def plain_follows(s, m, t, label, kids, rest):
    """The profile that follows from two profiles."""
    looks, states = m
    moves = []
    for _, choices in states:
        template = next(template for look, template in choices[label] if look == -1 or look in kids[1])
        moves.append(tuple(sorted(moves_of_parts(m, t, template, kids[2], rest[2]))))
    return (
        plain.follows(s, label, kids[0], rest[0]), plain.follows(looks, label, kids[1], rest[1]), tuple(moves),
    )


def empty_profile(s, m, t):
    return plain_profile(s, m, t, ())


def profiles_of(s, m, t, most=1000):
    """All profiles of documents under s, m and t; None if there are more than that many."""
    found = [empty_profile(s, m, t)]
    known = set(found)
    for at in range(most):
        if at == len(found):
            return found
        for other in range(at + 1):
            for pair in ((at, other), (other, at)):
                for label in LABELS:
                    more = plain_follows(s, m, t, label, found[pair[0]], found[pair[1]])
                    if more not in known:
                        known.add(more)
                        found.append(more)
        if len(found) > most:
            return None
    return None


def is_good(t, profile):
    return 0 not in profile[0] or any(q == 0 and t[r][0] for q, r in profile[2][0])


def is_yes_paper(s, m, t, profiles):
    """[5.4], word by word, of tuples that are like profiles."""
    known = set(profiles)
    if empty_profile(s, m, t) not in known or not all(is_good(t, profile) for profile in known):
        return False
    return all(plain_follows(s, m, t, a, p, q) in known for p in known for q in known for a in LABELS)


def is_no_paper(s, m, t, d):
    return plain.plain_allows(s, d) and not plain.plain_allows(t, plain_turned(m, d))


# What is no transformation


def with_template(template):
    """A transformation in which the template stands in a choice."""
    return plainly(((), lambda a: template if a == 2 else ()))


def with_end(template):
    return plainly((template, lambda a: ()))


def with_choices(choices, looks=ONE_LOOK):
    return choosing(looks, ((), lambda a: choices if a == 3 else ((-1, ()),)))


def many_states(many):
    return plainly(*[((), lambda a: (inner(many - 1),))] * many)


def nested(levels, parts=()):
    """A template with that many levels, the innermost one having those parts."""
    return parts if levels == 1 else (node(levels % 5, *nested(levels - 1, parts)),)


def spread_parts(many):
    """A transformation of 12 states with that many parts, in ends, templates and templates within them."""
    shares = [many // 12 + (number < many % 12) for number in range(12)]
    return plainly(*[
        ((node(0),), lambda a, share=share: (node(1, *[behind(11)] * (share - 2)),) if a == 4 else ()) for share in shares
    ])


def looking(many):
    """A transformation with looks of that many states, the last one of which is asked for."""
    return choosing(((True, ()),) * many, ((), lambda a: ((many - 1, ()), (-1, (behind(),)))))


def sharing(levels):
    """A template that stands for more parts than can be walked."""
    found = (node(0), node(0))
    for _ in range(levels):
        found = (node(0, *found), node(0, *found))
    return found


BAD_TEMPLATES = (
    None, 0, True, "", "in", "next", (0,), (None,), (True,), ("",), ("in",), ("next",), ("node",), ((),), (("in",),),
    (("node",),), (("next",),), (("in", 0, 0),), (("next", 0, ()),), (("in", ()),), (("next", None),), (("in", "0"),),
    (("in", -1),), (("in", 1),), (("next", -1),), (("next", 1),), (("in", False),), (("next", False),), (("in", True),),
    (("node", 0),), (("node", 0, (), ()),), (("node", -1, ()),), (("node", 5, ()),), (("node", True, ()),),
    (("node", False, ()),), (("node", None, ()),), (("node", "0", ()),), (("node", (), 0),), (("node", 0, None),),
    (("node", 0, 0),), (("node", 0, ""),), (("node", 0, False),), (("node", 0, (0,)),), (("node", 0, (("in", 1),)),),
    (("node", 0, (("node", 5, ()),)),), (("nodes", 0, ()),), (("Node", 0, ()),), (("", 0, ()),), ((0, 0, ()),),
    (("inside", 0),), (("In", 0),), (("", 0),), ((0, 0),), ((None, 0),), ((True, 0),), (((), 0),), (("node", "in"),),
    (("in", 0), ("in", 1)), (("in", 0), 0), (("in", 0), ("node", 0)), ("in", 0), ("node", 0, ()), ((("in", 0),),),
    (("in", 10 ** 30),), (("node", 10 ** 30, ()),), (("node", 0, (("next", False),)),),
)

BAD_ENDS = (
    (inner(),), (behind(),), (node(0), inner()), (node(0), behind()), (node(0, inner()),), (node(0, behind()),),
    (node(0, node(1), node(2, node(3, behind()))),), (node(0, node(0)), node(0, node(0, inner()))),
)

BAD_CHOICES = (
    (), None, 0, "", True, ((),), (0,), ((0, ()),), ((-1,),), ((-1, (), ()),), (((), -1),), ((-1, ()), (-1, ())),
    ((0, ()), (0, ())), ((-1, ()), (0, ())), ((0, ()), (-1, ()), (0, ())), ((0, ()), (-1, ()), (-1, ())),
    ((1, ()), (-1, ())), ((-2, ()), (-1, ())), ((-2, ()),), ((True, ()),), ((False, ()),), ((None, ()),), (("-1", ()),),
    ((False, ()), (-1, ())), ((None, ()), (-1, ())), (("0", ()), (-1, ())), (((), ()), (-1, ())), (-1, ()), ("ab",),
    ((0, ()), (0,), (-1, ())), ((0, None), (-1, ())), ((0, ()), (-1, None)), ((0, (0,)), (-1, ())),
    ((10 ** 30, ()), (-1, ())),
)

ROW = ((-1, ()),)
RIGHT_STATE = ((), (ROW,) * 5)
BAD_FORMS = (
    None, 0, True, "", "ab", (), (ONE_LOOK,), (ONE_LOOK, (RIGHT_STATE,), ()), ((RIGHT_STATE,), ONE_LOOK), ONE_LOOK,
    (ONE_LOOK, ()), (ONE_LOOK, None), (ONE_LOOK, 0), (ONE_LOOK, ""), (ONE_LOOK, "ab"), (ONE_LOOK, RIGHT_STATE),
    (ONE_LOOK, ((),)), (ONE_LOOK, (RIGHT_STATE[:1],)), (ONE_LOOK, (RIGHT_STATE + ((),),)), (ONE_LOOK, (None,)),
    (ONE_LOOK, (RIGHT_STATE, ())), (ONE_LOOK, (RIGHT_STATE, None)), (ONE_LOOK, (((), ()),)), (ONE_LOOK, (((), None),)),
    (ONE_LOOK, (((), (ROW,) * 4),)), (ONE_LOOK, (((), (ROW,) * 6),)), (ONE_LOOK, (((), (ROW,) * 4 + ((),)),)),
    (ONE_LOOK, (((), ROW),)), (ONE_LOOK, (((), "01234"),)), (ONE_LOOK, (((ROW,) * 5, ()),)), plain.doubled(49),
    ((), (RIGHT_STATE,)), (None, (RIGHT_STATE,)), (((0, ()),), (RIGHT_STATE,)), (((True, ((0, 0, 1),)),), (RIGHT_STATE,)),
    (((True, ((0, 0, 0), (0, 0, 0))),), (RIGHT_STATE,)), (((True, ((0, 0, False),)),), (RIGHT_STATE,)),
    (plain.all_rules(60, 0), (RIGHT_STATE,)), (ONE_LOOK, (RIGHT_STATE,) * 13), (plain.all_rules(8, 2001), (RIGHT_STATE,)),
)

BEYOND = (
    many_states(13), spread_parts(301), with_template((behind(),) * 301), with_end((node(0),) * 301),
    with_template((node(0, *[inner()] * 300),)), with_template(nested(11)), with_end(nested(11)),
    with_template((inner(),) + nested(10, (node(0),))), looking(9), with_template(sharing(8)), with_end(sharing(60)),
    with_template(sharing(60)),
)

BAD_TRANSFORMATIONS = (
    BAD_FORMS + BEYOND + tuple(with_template(template) for template in BAD_TEMPLATES)
    + tuple(with_end(template) for template in BAD_TEMPLATES + BAD_ENDS)
    + tuple(with_choices(choices) for choices in BAD_CHOICES)
)
