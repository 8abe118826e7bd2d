"""[4.3]: the sum, the meet and the rest of schemas."""

import itertools
import random
import unittest

from leafward.comparing import equal, within
from leafward.document import read
from leafward.errors import TooMuch
from leafward.joining import added, meet, without
from leafward.schema import allows, check_schema, counted, least
from tests import plain
from tests.plain import ANYTHING, EMPTY_ONLY, NOTHING

EVEN = plain.sums((2, (1, 1, 1, 1, 1)))
THREES = plain.sums((3, (1, 1, 1, 1, 1)))
ROWS = ((True, ((0, 1, 0), (1, 1, 0))), (True, ()))
NOT_EMPTY = ((False, tuple((a, 1, 1) for a in range(5))), (True, tuple((a, 1, 1) for a in range(5))))
SHARED = (NOTHING, EMPTY_ONLY, ANYTHING, EVEN, THREES, ROWS, NOT_EMPTY)

PLAIN = {
    added: lambda left, right: left or right,
    meet: lambda left, right: left and right,
    without: lambda left, right: left and not right,
}


def small_schemas(seed, many):
    rng = random.Random(seed)
    return [plain.random_schema(rng, rng.randrange(1, 4), 7, (0, 1)) for _ in range(many)]


def many_rules(s):
    return sum(len(rules) for _, rules in s)


def reckoned_too_much(join, s, t):
    """When the interface lets TooMuch be raised."""
    if join == added:
        return len(s) + len(t) + 1 > 60 or 2 * (many_rules(s) + many_rules(t)) > 2000
    if join == meet:
        return len(s) * len(t) > 60 or many_rules(s) * many_rules(t) > 2000
    return len(plain.pairs_of(s, t)) > 13


class Joined(unittest.TestCase):
    def hold_against(self, s, t, found):
        for join, reading in PLAIN.items():
            joined = join(s, t)
            self.assertIsNone(check_schema(joined))
            for d in found:
                expected = reading(plain.plain_allows(s, d), plain.plain_allows(t, d))
                self.assertIs(plain.plain_allows(joined, d), expected, (join, s, t, d))
                self.assertIs(allows(joined, d), expected)

    def test_shared_schemas(self):
        found = plain.documents_up_to(3, (0, 1)) + [read("2"), read("4(3)"), read("0(12)3")]
        for s, t in itertools.product(SHARED, repeat=2):
            self.hold_against(s, t, found)

    def test_small_schemas(self):
        rng = random.Random(121)
        small = plain.documents_up_to(3, (0, 1))
        tried = 0
        for s, t in zip(small_schemas(122, 120), small_schemas(123, 120)):
            if len(plain.pairs_of(s, t)) <= 13:
                tried += 1
                larger = [plain.drawn(rng, rng.randrange(4, 20), (0, 1)) for _ in range(15)]
                self.hold_against(s, t, small + larger)
        self.assertGreater(tried, 80)

    def test_all_labels(self):
        rng = random.Random(124)
        small = plain.documents_up_to(2, range(5))
        tried = 0
        for _ in range(60):
            s, t = (plain.random_schema(rng, 2, 10, range(5)) for _ in range(2))
            if len(plain.pairs_of(s, t)) <= 13:
                tried += 1
                self.hold_against(s, t, small + [plain.drawn(rng, 12, range(5)) for _ in range(10)])
        self.assertGreater(tried, 20)

    def test_large_documents(self):
        found = (plain.row(300), plain.bushy(300), plain.tower(30), plain.row(299), plain.bushy(298, 1))
        for join, reading in PLAIN.items():
            joined = join(EVEN, THREES)
            for d in found:
                many = plain.size_of(d)
                self.assertIs(allows(joined, d), reading(many % 2 == 0, many % 3 == 0))

    def test_counts(self):
        for s, t in ((EVEN, THREES), (ROWS, EVEN), (NOT_EMPTY, ROWS), (ANYTHING, NOTHING)):
            both, all_of_them, rest = (counted(join(s, t), 6) for join in (meet, added, without))
            self.assertEqual([m + n for m, n in zip(both, all_of_them)], [m + n for m, n in zip(counted(s, 6), counted(t, 6))])
            self.assertEqual([m + n for m, n in zip(both, rest)], counted(s, 6))

    def test_the_empty_document(self):
        for s, t in itertools.product((NOTHING, EMPTY_ONLY, NOT_EMPTY, ANYTHING), repeat=2):
            for join, reading in PLAIN.items():
                self.assertIs(allows(join(s, t), ()), reading(plain.plain_allows(s, ()), plain.plain_allows(t, ())))

    def test_the_first_state_that_comes_again(self):
        # The first state of each is reached again within documents, where only its own schema counts.
        s = ((True, ((0, 0, 0),)),)
        t = ((True, ((1, 0, 0),)),)
        for text, expected in (("", True), ("0(0)0", True), ("1(1)1", True), ("01", False), ("0(1)", False), ("1(0)", False)):
            self.assertIs(allows(added(s, t), read(text)), expected)

    def test_what_is_handed_in_stays(self):
        s, t = EVEN, ROWS
        copies = (tuple(s), tuple(t))
        for join in PLAIN:
            self.assertEqual(join(s, t), join(s, t))
            self.assertEqual((s, t), copies)


class Together(unittest.TestCase):
    """Sums, meets and rests of sums, meets and rests."""

    def triples(self, seed, many):
        found = []
        for s, t, u in zip(*[small_schemas(seed + k, many) for k in range(3)]):
            if all(len(plain.pairs_of(a, b)) <= 6 for a, b in ((s, t), (s, u), (t, u))):
                found.append((s, t, u))
        self.assertGreater(len(found), many // 3)
        return found + [(EVEN, THREES, EVEN), (ROWS, EVEN, NOT_EMPTY), (ANYTHING, EVEN, ROWS)]

    def same(self, make_left, make_right):
        """Hold two schemas against one another, if there are few enough states, rules and pairs for both."""
        try:
            left, right = make_left(), make_right()
        except TooMuch:
            return 0
        self.assertIs(equal(left, right), True, (left, right))
        return 1

    def test_sums_and_meets(self):
        held = 0
        for s, t, u in self.triples(131, 40):
            held += self.same(lambda: added(s, t), lambda: added(t, s))
            held += self.same(lambda: meet(s, t), lambda: meet(t, s))
            held += self.same(lambda: added(added(s, t), u), lambda: added(s, added(t, u)))
            held += self.same(lambda: meet(s, added(t, u)), lambda: added(meet(s, t), meet(s, u)))
            self.assertEqual(within(s, added(s, t))[0], "yes")
            self.assertEqual(within(t, added(s, t))[0], "yes")
            self.assertEqual(within(meet(s, t), s)[0], "yes")
            self.assertEqual(within(meet(s, t), t)[0], "yes")
        self.assertGreater(held, 60)

    def test_rests(self):
        held = 0
        for s, t, u in self.triples(134, 40):
            rest = without(s, t)
            self.assertEqual(within(rest, s)[0], "yes")
            held += self.same(lambda: meet(rest, t), lambda: NOTHING)
            held += self.same(lambda: without(s, rest), lambda: meet(s, t))
            held += self.same(lambda: added(rest, meet(s, t)), lambda: s)
            held += self.same(lambda: without(rest, u), lambda: without(s, added(t, u)))
            held += self.same(lambda: without(added(s, t), t), lambda: rest)
            held += self.same(lambda: without(ANYTHING, without(ANYTHING, s)), lambda: s)
            held += self.same(
                lambda: without(ANYTHING, added(s, t)), lambda: meet(without(ANYTHING, s), without(ANYTHING, t)),
            )
        self.assertGreater(held, 120)

    def test_nothing_and_anything(self):
        for s in SHARED:
            self.assertTrue(equal(added(s, NOTHING), s) and equal(added(NOTHING, s), s))
            self.assertTrue(equal(added(s, ANYTHING), ANYTHING) and equal(added(s, s), s) and equal(meet(s, s), s))
            self.assertTrue(equal(meet(s, NOTHING), NOTHING) and equal(meet(s, ANYTHING), s) and equal(meet(ANYTHING, s), s))
            self.assertTrue(equal(without(s, NOTHING), s) and equal(without(s, ANYTHING), NOTHING))
            self.assertTrue(equal(without(s, s), NOTHING) and equal(without(NOTHING, s), NOTHING))

    def test_the_rest_agrees_with_within(self):
        for s, t, _ in self.triples(137, 40):
            word, told = within(s, t)
            self.assertEqual(least(without(s, t)), None if word == "yes" else told)


class Bounds(unittest.TestCase):
    def right_or_too_much(self, join, s, t, found):
        """Whether join tells the right schema; if it raises TooMuch, the interface lets it."""
        try:
            joined = join(s, t)
        except TooMuch:
            self.assertTrue(reckoned_too_much(join, s, t), join)
            return False
        self.assertIsNone(check_schema(joined))
        for d in found:
            expected = PLAIN[join](plain.plain_allows(s, d), plain.plain_allows(t, d))
            self.assertIs(allows(joined, d), expected)
        return True

    def rows(self):
        return [plain.row(many) for many in (0, 1, 2, 28, 29, 30, 31, 57, 58, 59)] + [read("1"), read("0(0)")]

    def test_states_of_sums(self):
        for left, right, fits in ((28, 29, True), (1, 56, True), (57, 1, False), (29, 29, False), (58, 58, False)):
            s, t = plain.rows_by_length(left), plain.rows_by_length(right)
            self.assertEqual(len(s) + len(t) + 1 <= 60, fits)
            self.assertIs(self.right_or_too_much(added, s, t, self.rows()), fits)

    def test_the_most_states_of_a_sum(self):
        self.assertIs(self.right_or_too_much(added, plain.rows_by_length(57), EMPTY_ONLY, self.rows()), True)
        self.assertIs(self.right_or_too_much(added, EMPTY_ONLY, plain.rows_by_length(57), self.rows()), True)
        s = plain.rows_by_length(59)
        self.assertRaises(TooMuch, added, s, s)
        self.assertRaises(TooMuch, added, s, EMPTY_ONLY)

    def test_rules_of_sums(self):
        # All rules belong to the first states, so that these count twice in the sum.
        for many, fits in ((999, True), (1000, True), (1001, False), (1500, False)):
            s = first_rules(16, many - 3)
            t = first_rules(2, 3)
            self.assertEqual(2 * (many_rules(s) + many_rules(t)) <= 2000, fits)
            self.assertIs(self.right_or_too_much(added, s, t, self.rows()[:4]), fits)
            self.assertIs(self.right_or_too_much(added, t, s, self.rows()[:4]), fits)

    def test_rules_of_sums_of_other_states(self):
        for many in (1000, 1001, 1900, 2000):
            s = plain.all_rules(50, many)
            self.right_or_too_much(added, s, EMPTY_ONLY, self.rows()[:4])

    def test_states_of_meets(self):
        for left, right in ((6, 10), (10, 6), (1, 60), (60, 1), (2, 30), (20, 3)):
            self.assertIs(self.right_or_too_much(meet, few_rules(left), few_rules(right), self.rows()), True)
        for left, right in ((31, 2), (2, 31), (8, 8), (21, 3), (60, 60)):
            self.assertIs(self.right_or_too_much(meet, few_rules(left), few_rules(right), self.rows()), False)

    def test_rules_of_meets(self):
        for left, right in ((20, 100), (1, 2000), (2000, 1), (10, 200), (44, 45)):
            s, t = (plain.all_rules(states, many) for states, many in (fewest_states(left), fewest_states(right)))
            self.assertIs(self.right_or_too_much(meet, s, t, self.rows()[:4]), True)

    def test_rules_of_meets_with_one_label(self):
        # All rules have one label, so that each two of them make one of the meet.
        for left, right, fits in ((40, 50, True), (50, 40, True), (20, 100, True), (3, 667, False), (41, 49, False), (29, 69, False)):
            s = one_label(2 if left <= 8 else 6, left)
            t = one_label(10 if right <= 100 else 19, right)
            if len(s) * len(t) <= 60:
                self.assertEqual(many_rules(s) * many_rules(t), left * right)
                self.assertIs(self.right_or_too_much(meet, s, t, self.rows()[:4]), left * right <= 2000)

    def test_pairs_of_rests(self):
        for modulus, many in ((10, 12), (11, 13), (12, 14)):
            s = plain.rows_by_length(modulus)
            self.assertEqual(len(plain.pairs_of(s, NOTHING)), many)
            for t in (NOTHING, s, ANYTHING):
                told = self.right_or_too_much(without, s, t, self.rows())
                self.assertTrue(told or many > 13)
                told = self.right_or_too_much(without, t, s, self.rows())
                self.assertTrue(told or many > 13)

    def test_thirteen_pairs_with_many_rules(self):
        # Each two pairs make another one for each label, and all but one of the thirteen are wanted.
        s = plain.sums((13, (1, 2, 3, 4, 5)))
        self.assertEqual(len(plain.pairs_of(ANYTHING, s)), 13)
        found = [tuple((a, ()) for a in labels) for labels in itertools.product(range(5), repeat=3)]
        self.assertIs(self.right_or_too_much(without, ANYTHING, s, found), True)
        self.assertIs(self.right_or_too_much(without, s, NOTHING, found), True)
        self.assertIs(self.right_or_too_much(without, s, s, found), True)

    def test_too_much_is_raised_only_where_it_may_be(self):
        rng = random.Random(141)
        found = plain.documents_up_to(2, (0, 1))
        told = []
        for _ in range(60):
            s = plain.random_schema(rng, rng.randrange(1, 9), 50, (0, 1))
            t = plain.random_schema(rng, rng.randrange(1, 9), 50, (0, 1))
            if len(s) * len(t) > 16:
                told.append(self.right_or_too_much(meet, s, t, found))
                told.append(self.right_or_too_much(added, s, t, found))
            elif len(s) * len(t) < 8:
                told.append(self.right_or_too_much(without, s, t, found))
        self.assertIn(True, told)


def first_rules(states, many):
    """A schema whose first state has that many rules, and the other ones none."""
    triples = [(a, x, y) for a in range(5) for x in range(states) for y in range(states)]
    return ((True, tuple(triples[:many])),) + ((False, ()),) * (states - 1)


def few_rules(states):
    """Rows of trees 0 of a length that is at most states - 1, for one state the empty document."""
    return tuple((True, ((0, states - 1, state + 1),) if state + 1 < states else ()) for state in range(states))


def fewest_states(many):
    """The fewest states that can have that many rules, and this number."""
    return next(states for states in range(1, 61) if 5 * states ** 3 >= many), many


def one_label(states, many):
    """A schema with that many rules, all of them with the label 0."""
    triples = [(0, x, y) for x in range(states) for y in range(states)]
    shares = [many // states + (state < many % states) for state in range(states)]
    return tuple((state == states - 1, tuple(triples[:share])) for state, share in enumerate(shares))


if __name__ == "__main__":
    unittest.main()
