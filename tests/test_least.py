"""least: the least document that a schema allows."""

import itertools
import random
import unittest

from leafward.document import read, written
from leafward.errors import TooMuch
from leafward.schema import least
from tests import plain
from tests.plain import ANYTHING, EMPTY_ONLY, NOTHING


def doubling(states):
    """State k allows one document, twice as large and one more than that of state k + 1; the last one the empty one."""
    return plain.rule_schema([states - 1], [(k, 0, k + 1, k + 1) for k in range(states - 1)], states)


def nesting(deep):
    """A schema that allows one document, a tower of that many trees."""
    return plain.rule_schema([deep], [(k, 0, k + 1, deep) for k in range(deep)], deep + 1)


class Least(unittest.TestCase):
    def test_the_empty_document(self):
        self.assertEqual(least(EMPTY_ONLY), ())
        self.assertEqual(least(ANYTHING), ())

    def test_none(self):
        self.assertIsNone(least(NOTHING))
        self.assertIsNone(least(((False, ((0, 0, 0),)),)))
        self.assertIsNone(least(((False, ((0, 1, 2),)), (True, ()), (False, ((1, 2, 1),)))))
        self.assertIsNone(least(((False, ()), (True, ()))))

    def test_against_a_search(self):
        rng = random.Random(21)
        found = plain.documents_up_to(5, (0, 1))
        short = found[:sum(plain.plain_size(d) < 5 for d in found)]
        for number in range(400):
            s = plain.random_schema(rng, rng.randrange(1, 5), 9, (0, 1))
            self.hold_against(s, found if number % 10 == 0 else short)

    def hold_against(self, s, found):
        expected = next((d for d in found if plain.plain_allows(s, d)), None)
        result = least(s)
        if expected is not None or not plain.has_any(s):
            self.assertEqual(result, expected, s)
        else:
            self.assertTrue(plain.plain_allows(s, result), s)
            self.assertGreater(plain.plain_size(result), plain.plain_size(found[-1]))

    def test_ties_are_decided_by_the_order(self):
        # State 0 allows a choice of documents; each one has a chain of states of its own.
        choices = (
            ("04", "0(0)"), ("0(4)", "10"), ("0(0)1", "0(1)0"), ("0(4)4", "0(00)"), ("0(10)", "0(1(0))"),
            ("0(00)0", "0(000)"), ("4", "00"), ("", "0"), ("0", "1"), ("001", "010"), ("0(01)", "0(10)"),
        )
        for first, second in choices:
            for pair in ((first, second), (second, first)):
                self.assertEqual(written(least(one_of([read(text) for text in pair]))), first)

    def test_ties_of_random_documents(self):
        rng = random.Random(22)
        for many in (3, 4, 5):
            found = list(plain.documents(many, (0, 1)))
            for _ in range(200):
                places = [rng.randrange(len(found)) for _ in range(3)]
                s = one_of([found[place] for place in places])
                self.assertEqual(least(s), found[min(places)])

    def test_ties_of_documents_that_differ_at_their_end(self):
        for many in range(1, 9):
            for make in (plain.row, plain.tower, plain.bushy):
                first = read("0" + written(make(many)))
                second = read("0" + written(make(many))[::-1].replace("0", "1", 1)[::-1])
                self.assertEqual(least(one_of([second, first])), first)
                self.assertEqual(least(one_of([first, second])), first)

    def test_doubling(self):
        self.assertEqual(least(doubling(9)), full(8))
        self.assertEqual(plain.plain_size(least(doubling(9))), 255)
        for states in (10, 11, 30, 60):
            self.assertRaises(TooMuch, least, doubling(states))

    def test_sizes_at_the_bound(self):
        for many in (1, 2, 299, 300):
            self.assertEqual(least(plain.only(plain.bushy(many))), plain.bushy(many))
        for many in (301, 302, 1000):
            self.assertRaises(TooMuch, least, plain.only(plain.bushy(many)))

    def test_rows_at_the_bound(self):
        largest = plain.row(44) + ((1, full(8)),)
        self.assertEqual(plain.plain_size(largest), 300)
        self.assertEqual(least(plain.only(largest)), largest)
        self.assertRaises(TooMuch, least, plain.only(plain.row(1) + largest))

    def test_nesting_at_the_bound(self):
        self.assertEqual(least(nesting(29)), plain.tower(29))
        self.assertEqual(least(nesting(30)), plain.tower(30))
        for deep in (31, 32, 59):
            self.assertRaises(TooMuch, least, nesting(deep))

    def test_the_depth_of_what_stands_later(self):
        self.assertEqual(least(plain.only(plain.row(5) + plain.tower(30))), plain.row(5) + plain.tower(30))
        self.assertRaises(TooMuch, least, plain.only(plain.row(5) + plain.tower(31)))
        self.assertRaises(TooMuch, least, plain.only(plain.tower(31) + plain.row(5)))

    def test_only_the_least_one_counts(self):
        # The first tree decides between documents of one size: its label, then its children, of which a tower has more.
        self.assertEqual(least(one_of([plain.tower(31), plain.bushy(31)])), plain.bushy(31))
        self.assertEqual(least(one_of([plain.tower(31, 1), plain.bushy(31)])), plain.bushy(31))
        self.assertRaises(TooMuch, least, one_of([plain.tower(31), plain.bushy(31, 1)]))
        self.assertEqual(least(one_of([plain.tower(31), plain.bushy(30, 1)])), plain.bushy(30, 1))
        self.assertRaises(TooMuch, least, one_of([plain.tower(31), plain.bushy(32)]))
        self.assertEqual(least(one_of([plain.bushy(301), plain.bushy(300, 4)])), plain.bushy(300, 4))

    def test_states_with_documents_beyond_the_bounds_only(self):
        huge = 20
        rules = [(k, 0, k + 1, k + 1) for k in range(1, huge)]
        rules += [(0, 0, 1, huge), (0, 0, huge, 1), (0, 1, huge, huge)]
        self.assertEqual(least(plain.rule_schema([huge], rules, huge + 1)), ((1, ()),))
        deep = 40
        rules = [(k, 0, k + 1, deep) for k in range(1, deep)]
        rules += [(0, 0, 1, deep), (0, 4, deep, deep), (0, 0, deep, 1)]
        self.assertEqual(least(plain.rule_schema([deep], rules, deep + 1)), ((4, ()),))

    def test_a_state_that_comes_again(self):
        s = ((False, ((0, 0, 0), (1, 0, 1), (3, 1, 1))), (True, ((0, 0, 0), (0, 1, 1))))
        self.assertEqual(least(s), ((3, ()),))

    def test_the_most_states_and_rules(self):
        self.assertEqual(least(plain.all_rules(60, 2000)), ())
        weights = (2, 4, 6, 8, 3)
        s = plain.sums((20, weights))
        for q in range(20):
            rules = [((k - q) % 20, a, (x - q) % 20, (y - q) % 20) for k, a, x, y in flat(s)]
            turned = plain.rule_schema([-q % 20], rules, 20)
            self.assertEqual(least(turned), least_row(weights, q))


def least_row(weights, total):
    """The least document whose labels make that sum modulo 20: a row without children, its labels rising."""
    for many in range(20):
        for labels in itertools.combinations_with_replacement(range(5), many):
            if sum(weights[label] for label in labels) % 20 == total:
                return tuple((label, ()) for label in labels)


def flat(s):
    return [(k,) + rule for k, (_, rules) in enumerate(s) for rule in rules]


def full(deep):
    return ((0, full(deep - 1)),) + full(deep - 1) if deep else ()


def one_of(found):
    """A schema that allows just the documents found."""
    parts = [plain.only(d) for d in found]
    ends, rules, base = [], [], 1
    for part in parts:
        rules += [(k + base, a, x + base, y + base) for k, a, x, y in flat(part)]
        rules += [(0, a, x + base, y + base) for k, a, x, y in flat(part) if k == 0]
        ends += [k + base for k in range(len(part)) if part[k][0]] + [0] * part[0][0]
        base += len(part)
    return plain.rule_schema(ends, rules, base)


if __name__ == "__main__":
    unittest.main()
