"""[5.5]: the schema before a transformation and a schema."""

import random
import unittest

from leafward.comparing import equal, within
from leafward.document import read
from leafward.errors import TooMuch
from leafward.fitting import accepts, fits, schema_before
from leafward.joining import without
from leafward.schema import allows, check_schema, counted, least
from leafward.transformation import turned
from tests import plain
from tests import plain_turning as turning
from tests.plain import ANYTHING, EMPTY_ONLY, NOTHING
from tests.plain_turning import behind, inner, node

EVEN = plain.sums((2, (1, 1, 1, 1, 1)))
FOURS = plain.sums((4, (1, 1, 1, 1, 1)))
NO_ZEROS = ((True, tuple((a, 0, 0) for a in range(1, 5))),)
ROWS = ((True, tuple((a, 1, 0) for a in range(5))), (True, ()))
SCHEMAS = (NOTHING, EMPTY_ONLY, ANYTHING, EVEN, FOURS, NO_ZEROS, ROWS)


def profiles_before(m, t, most):
    """The profiles under a schema of one state without rules; None if there are more than that many."""
    return turning.profiles_of(NOTHING, m, t, most)


def pairs(seed, many):
    """Transformations and schemas, those with at most 13 profiles."""
    rng = random.Random(seed)
    for number in range(many):
        m = turning.SHARED[number % 20] if number % 20 < len(turning.SHARED) else turning.random_transformation(rng)
        t = rng.choice(SCHEMAS) if number % 3 == 0 else plain.random_schema(rng, rng.randrange(1, 3), 7, (0, 1))
        if profiles_before(m, t, 13) is not None:
            yield m, t


class Before(unittest.TestCase):
    def hold_against(self, m, t, found):
        told = schema_before(m, t)
        self.assertIsNone(check_schema(told))
        for d in found:
            self.assertIs(allows(told, d), plain.plain_allows(t, turning.plain_turned(m, d)), (m, t, d))

    def test_plain_cases(self):
        cases = (
            (turning.KEEP, EVEN, EVEN), (turning.DOUBLE, EVEN, ANYTHING), (turning.DROP_ALL, EMPTY_ONLY, ANYTHING),
            (turning.DROP_ALL, NOTHING, NOTHING), (turning.DROP_ZEROS, NO_ZEROS, ANYTHING), (turning.KEEP, NO_ZEROS, NO_ZEROS),
            (turning.TURN_ROUND, ROWS, ROWS), (turning.WRAP, FOURS, EVEN), (turning.WRAP, ROWS, EMPTY_ONLY),
            (turning.OPEN_ZEROS, EMPTY_ONLY, ((True, ((0, 0, 0),)),)), (turning.LEAVES, ROWS, ROWS),
        )
        for m, t, expected in cases:
            self.assertIs(equal(schema_before(m, t), expected), True, (m, t))

    def test_shared_transformations(self):
        found = plain.documents_up_to(3, (0, 1)) + [read("2"), read("0(4)3"), read("33")]
        held = 0
        for m in turning.SHARED:
            for t in SCHEMAS:
                if profiles_before(m, t, 13) is not None:
                    held += 1
                    self.hold_against(m, t, found)
        self.assertGreater(held, 60)

    def test_small_schemas(self):
        rng = random.Random(201)
        found = plain.documents_up_to(3, (0, 1))
        for m, t in pairs(202, 150):
            self.hold_against(m, t, found + [plain.drawn(rng, rng.randrange(4, 9), range(5)) for _ in range(10)])

    def test_large_documents(self):
        found = (plain.row(300), plain.bushy(299), plain.tower(30), plain.row(271, 1) + plain.tower(29))
        for m, t in ((turning.KEEP, EVEN), (turning.TURN_ROUND, ROWS), (turning.DROP_ZEROS, FOURS), (turning.LEAVES, NO_ZEROS)):
            told = schema_before(m, t)
            for d in found:
                self.assertIs(allows(told, d), allows_any(t, turned(m, d)))

    def test_what_is_made_may_be_of_any_size(self):
        told = schema_before(turning.BINARY, EVEN)
        self.assertIs(allows(told, ((0, ()),) + plain.row(299, 1)), True)
        self.assertIs(allows(told, ((1, ()),) + plain.row(299, 1)), False)

    def test_fits_exactly_if_within_the_schema_before(self):
        rng = random.Random(203)
        words = []
        for m, t in pairs(204, 200):
            s = plain.random_schema(rng, rng.randrange(1, 4), 6, (0, 1))
            try:
                paper = fits(s, m, t)
                expected = within(s, schema_before(m, t))
            except TooMuch:
                continue
            words.append(paper[0])
            self.assertEqual(paper[0], expected[0], (s, m, t))
            if paper[0] == "no":
                self.assertEqual(paper, expected)
        self.assertGreater(min(words.count("yes"), words.count("no")), 30)

    def test_the_schema_before_fits(self):
        held = 0
        for m, t in pairs(205, 100):
            before = schema_before(m, t)
            if turning.profiles_of(before, m, t, 60) is not None:
                held += 1
                self.assertEqual(fits(before, m, t)[0], "yes")
                rest = without(ANYTHING, before)
                expected = least(rest)
                paper = fits(ANYTHING, m, t)
                self.assertEqual(paper[1] if paper[0] == "no" else None, expected)
        self.assertGreater(held, 40)

    def test_counts(self):
        rng = random.Random(206)
        found = [list(plain.documents(many, range(5))) for many in range(4)]
        for m, t in rng.sample(list(pairs(207, 60)), 8):
            expected = [sum(plain.plain_allows(t, turning.plain_turned(m, d)) for d in row) for row in found]
            self.assertEqual(counted(schema_before(m, t), 3), expected)


class OneBehindTheOther(unittest.TestCase):
    def test_two_transformations(self):
        found = plain.documents_up_to(3, (0, 1)) + [read("2"), read("0(4)3")]
        held = 0
        for m in turning.SHARED:
            for n, t in ((turning.KEEP, EVEN), (turning.DROP_ZEROS, EVEN), (turning.TURN_ROUND, ROWS), (turning.WRAP, FOURS),
                         (turning.LEAVES, NO_ZEROS), (turning.OPEN_ZEROS, EMPTY_ONLY), (turning.DOUBLE, ROWS)):
                between = schema_before(n, t)
                if profiles_before(m, between, 13) is None:
                    continue
                held += 1
                told = schema_before(m, between)
                for d in found:
                    expected = turning.plain_turned(n, turning.plain_turned(m, d))
                    self.assertIs(allows(told, d), plain.plain_allows(t, expected), (m, n, t, d))
        self.assertGreater(held, 60)

    def test_three_transformations(self):
        told = ROWS
        for m in (turning.TURN_ROUND, turning.DROP_ZEROS, turning.OPEN_ZEROS, turning.KEEP):
            told = schema_before(m, told)
        # Zeros are opened, so what is behind them is of no account.
        self.assertIs(allows(told, read("0(1)02")), True)
        self.assertIs(allows(told, read("0(1(0))2")), True)
        self.assertIs(allows(told, read("0(1(0(2)))2")), False)

    def test_papers_for_both(self):
        between = schema_before(turning.LEAVES, NO_ZEROS)
        paper = fits(ANYTHING, turning.OPEN_ZEROS, between)
        self.assertEqual(paper[0], "yes")
        self.assertIs(accepts(ANYTHING, turning.OPEN_ZEROS, between, paper), True)
        self.assertEqual(fits(ANYTHING, turning.KEEP, between), ("no", read("0(0)")))


class Bounds(unittest.TestCase):
    def right_or_too_much(self, m, t, found):
        """Whether the right schema is told; if not, there are too many profiles."""
        try:
            told = schema_before(m, t)
        except TooMuch:
            self.assertIsNone(profiles_before(m, t, 13))
            return False
        self.assertIsNone(check_schema(told))
        for d in found:
            self.assertIs(allows(told, d), allows_any(t, turned(m, d)))
        return True

    def test_thirteen_and_fourteen_profiles(self):
        found = [plain.row(many) for many in range(30)] + [read("1"), read("0(0)"), read("00(0)")]
        for modulus, many in ((10, 12), (11, 13), (12, 14), (13, 15)):
            t = plain.rows_by_length(modulus)
            self.assertEqual(len(profiles_before(turning.KEEP, t, 20)), many)
            self.assertTrue(self.right_or_too_much(turning.KEEP, t, found) or many > 13)

    def test_thirteen_profiles_with_many_rules(self):
        # All trees are put into one row, of whose labels the sum counts: each two profiles make one for each label.
        m = turning.plainly(((), lambda a: (node(a), inner(), behind())))
        found = [plain.drawn(random.Random(number), 1 + number // 10, range(5)) for number in range(80)]
        for modulus in (11, 12, 13):
            rules = [(k, a, modulus, (k + a + 1) % modulus) for k in range(modulus) for a in range(5)]
            t = plain.rule_schema([k for k in range(modulus + 1) if k != 5], rules, modulus + 1)
            self.assertEqual(len(profiles_before(m, t, 20)), modulus + 1)
            told = self.right_or_too_much(m, t, found)
            self.assertTrue(told or modulus > 12)

    def test_thirteen_profiles_one_of_which_the_empty_document_shares(self):
        t = plain.sums((13, (1, 2, 3, 4, 5)))
        found = [plain.drawn(random.Random(number), number // 8, range(5)) for number in range(60)]
        self.assertEqual(len(profiles_before(turning.KEEP, t, 20)), 13)
        self.assertIs(self.right_or_too_much(turning.KEEP, t, found), True)

    def test_looks_count_too(self):
        looks = plain.sums((7, (1, 1, 1, 1, 1)))
        m = turning.plainly(((), lambda a: (node(a, inner()), behind())), looks=looks)
        for modulus in (1, 2, 3):
            t = plain.sums((modulus, (1, 1, 1, 1, 1)))
            found = [plain.row(many) for many in range(20)]
            self.assertEqual(len(profiles_before(m, t, 30)), 7 * modulus)
            told = self.right_or_too_much(m, t, found)
            self.assertTrue(told or modulus > 1)

    def test_a_schema_that_is_told_with_few_states(self):
        # All documents are turned into right ones, or all into wrong ones, whatever their profiles are.
        looks = plain.sums((7, (1, 1, 1, 1, 1)))
        m = turning.plainly(((), lambda a: (node(a, inner()), behind())), looks=looks)
        self.assertEqual(schema_before(m, ANYTHING), ANYTHING)
        self.assertIsNone(least(schema_before(m, NOTHING)))
        self.assertEqual(len(schema_before(m, EVEN)) if profiles_before(m, EVEN, 13) else 2, 2)


def allows_any(t, d):
    """Whether t allows a document that may be beyond the bounds of those that are handed in."""
    return 0 in set_of_any(t, d)


def set_of_any(t, d):
    found = {q for q in range(len(t)) if t[q][0]}
    for label, kids in reversed(d):
        inside = set_of_any(t, kids)
        found = {q for q in range(len(t)) if any(a == label and x in inside and y in found for a, x, y in t[q][1])}
    return found


if __name__ == "__main__":
    unittest.main()
