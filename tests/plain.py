"""Plain readings of the points of the document, and values that the tests share.

Nothing here is taken from the package: what it returns is held against these readings.
"""


# Documents


def row(many, label=0):
    """A document of that many trees side by side."""
    return ((label, ()),) * many


def tower(deep, label=0):
    """A document nested that deep, one tree within the other."""
    found = ()
    for _ in range(deep):
        found = ((label, found),)
    return found


def bushy(many, label=0):
    """A document of that many trees that has few different documents within it."""
    if many == 0:
        return ()
    inside = (many - 1) // 2
    return ((label, bushy(inside, label)),) + bushy(many - 1 - inside, label)


def documents(many, labels):
    """All documents of that size with these labels, in the order of [1.2]."""
    if many == 0:
        yield ()
        return
    for label in labels:
        for inside in range(many):
            for kids in documents(inside, labels):
                for rest in documents(many - 1 - inside, labels):
                    yield ((label, kids),) + rest


def documents_up_to(most, labels):
    return [d for many in range(most + 1) for d in documents(many, labels)]


def drawn(rng, many, labels):
    """A drawn document of that many trees."""
    found = ()
    while many:
        inside = rng.randrange(many)
        found += ((rng.choice(labels), drawn(rng, inside, labels)),)
        many -= 1 + inside
    return found


def plain_size(d):
    return 0 if not d else 1 + plain_size(d[0][1]) + plain_size(d[1:])


def size_of(d):
    """The size, of rows too that are too long for plain_size."""
    return sum(1 + size_of(kids) for _, kids in d)


def plain_before(d, e):
    """[1.2], word by word."""
    if plain_size(d) != plain_size(e):
        return -1 if plain_size(d) < plain_size(e) else 1
    if not d:
        return 0
    if d[0][0] != e[0][0]:
        return -1 if d[0][0] < e[0][0] else 1
    return plain_before(d[0][1], e[0][1]) or plain_before(d[1:], e[1:])


def doubled(deep):
    """A tuple nested that deep in which each tuple stands twice in the one around it: too many trees to walk."""
    found = ()
    for _ in range(deep):
        found = ((0, found), (0, found))
    return found


BAD_DOCUMENTS = (
    (0,), (None,), (True,), ("",), ("0",), ((),), ((0,),), ((0, (), ()),), (((), 0),), (((0, ()),),), (0, ()),
    ((-1, ()),), ((5, ()),), ((10 ** 30, ()),), ((True, ()),), ((False, ()),), (("0", ()),), ((None, ()),),
    (((), ()),), ((0, 0),), ((0, None),), ((0, ""),), ((0, "0"),), ((0, False),), ((0, (0,)),), ((0, (0, ())),),
    ((0, ((5, ()),)),), ((0, ((True, ()),)),), ((0, ()), (0,)), ((0, ()), (5, ())), ((0, ()), ()), ("0", "1"), "ab",
    row(301), tower(31), ((0, row(300)),), row(270) + tower(31), tower(30) + row(271), ((0, ()),) + tower(31),
    doubled(31), doubled(49), "", "0", 0, None, True, ((0, ((0, ((0, None),)),)),),
)


# Schemas


def plain_set(s, d):
    """[2.2], word by word."""
    if not d:
        return {state for state in range(len(s)) if s[state][0]}
    kids = plain_set(s, d[0][1])
    rest = plain_set(s, d[1:])
    return {q for q in range(len(s)) if any(a == d[0][0] and x in kids and y in rest for a, x, y in s[q][1])}


def plain_allows(s, d):
    return 0 in plain_set(s, d)


def has_any(s):
    """Whether a schema allows any document: it does if its states do that can do so one after the other."""
    found = set()
    for _ in s:
        found |= {q for q in range(len(s)) if s[q][0] or any(x in found and y in found for _, x, y in s[q][1])}
    return 0 in found


def rule_schema(ends, rules, many):
    """The schema of that many states with the given ends and rules (state, label, inside, next)."""
    rows = [sorted({rule[1:] for rule in rules if rule[0] == state}) for state in range(many)]
    return tuple((state in ends, tuple(rows[state])) for state in range(many))


def random_schema(rng, states, rules, labels):
    found = [
        (rng.randrange(states), rng.choice(labels), rng.randrange(states), rng.randrange(states))
        for _ in range(rng.randrange(rules + 1))
    ]
    return rule_schema([q for q in range(states) if rng.random() < 0.4], found, states)


def only(d):
    """A schema that allows d alone, a state for each different document within it."""
    states = {}
    found = []

    def state_of(e):
        if e not in states:
            states[e] = len(states)
            if e:
                found.append((states[e], e[0][0], state_of(e[0][1]), state_of(e[1:])))
        return states[e]

    state_of(d)
    return rule_schema([states[()]], found, len(states))


def sums(*parts):
    """A schema with, for each part (modulus, weights), the states 0 to modulus - 1 of its own.

    Such a state allows the documents whose labels, weighted, make this sum. Each document has one state of each part.
    """
    ends, rules, base = [], [], 0
    for modulus, weights in parts:
        ends.append(base)
        for label in range(5):
            for x in range(modulus):
                for y in range(modulus):
                    rules.append((base + (weights[label] + x + y) % modulus, label, base + x, base + y))
        base += modulus
    return rule_schema(ends, rules, base)


def rows_by_length(modulus):
    """A schema that allows rows of trees 0, without children, of a length that the modulus divides.

    Its sets are those of the empty document, of rows of each length, and of all other documents: modulus + 2.
    """
    rules = [(k, 0, modulus, (k + 1) % modulus) for k in range(modulus)]
    return rule_schema([0, modulus], rules, modulus + 1)


def all_rules(states, many):
    """A schema of that many states and that many rules, spread over its states."""
    triples = [(a, x, y) for a in range(5) for x in range(states) for y in range(states)]
    shares = [many // states + (state < many % states) for state in range(states)]
    return tuple((True, tuple(triples[:share])) for share in shares)


NOTHING = ((False, ()),)
EMPTY_ONLY = ((True, ()),)
ANYTHING = ((True, tuple((label, 0, 0) for label in range(5))),)

BAD_SCHEMAS = (
    (), ((),), (True,), (True, ()), ((True,),), ((True, (), ()),), (((), True),), ((0, ()),), ((1, ()),), ((None, ()),),
    (("True", ()),), (((), ()),), ((True, None),), ((True, ""),), ((True, 0),), ((True, False),), ((True, (0,)),),
    ((True, ((),)),), ((True, (0, 0, 0)),), ((True, ((0, 0),)),), ((True, ((0, 0, 0, 0),)),), ((True, ("000",)),),
    ((True, ((-1, 0, 0),)),), ((True, ((5, 0, 0),)),), ((True, ((0, -1, 0),)),), ((True, ((0, 1, 0),)),),
    ((True, ((0, 0, -1),)),), ((True, ((0, 0, 1),)),), ((True, ((False, 0, 0),)),), ((True, ((0, False, 0),)),),
    ((True, ((0, 0, False),)),), ((True, ((True, 0, 0),)),), ((True, (("0", 0, 0),)),), ((True, ((0, None, 0),)),),
    ((True, ((0, 0, ()),)),), ((True, ((0, 0, 0), (0, 0, 0))),), ((True, ((1, 0, 0), (0, 0, 0))),),
    ((True, ((0, 0, 1), (0, 0, 0))), (True, ())), ((True, ((0, 1, 0), (0, 0, 1))), (True, ())),
    ((True, ()), (0, ())), ((True, ()), (True, ((0, 0, 2),))), ((True, ()), ()), ((True, ()), None),
    ((True, ()),) * 61, all_rules(60, 2001), ((True, all_rules(60, 2001)[0][1] * 2),) + ((True, ()),) * 59,
    "", "ab", 0, None, True, doubled(49),
)


# Comparing


def plain_pair(s, t, d):
    return (tuple(sorted(plain_set(s, d))), tuple(sorted(plain_set(t, d))))


def follows(s, label, kids, rest):
    """The set that follows from a label and two sets, word by word."""
    return tuple(
        q for q in range(len(s)) if any(a == label and x in kids and y in rest for a, x, y in s[q][1])
    )


def empty_set(s):
    return tuple(q for q in range(len(s)) if s[q][0])


def pairs_of(s, t):
    """All pairs of sets that documents have under s and t."""
    found = {(empty_set(s), empty_set(t))}
    while True:
        more = closed_once(s, t, found)
        if more == found:
            return found
        found = more


def closed_once(s, t, pairs):
    more = set(pairs)
    for a, b in pairs:
        for c, d in pairs:
            for label in range(5):
                more.add((follows(s, label, a, c), follows(t, label, b, d)))
    return more


def is_yes_paper(s, t, pairs):
    """[4.2], word by word, of tuples of pairs of sets."""
    known = set(pairs)
    if (empty_set(s), empty_set(t)) not in known or closed_once(s, t, known) != known:
        return False
    return all(0 in b for a, b in known if 0 in a)
