"""counted: how many documents of each size a schema allows."""

import itertools
import random
import unittest

from leafward.errors import TooMuch
from leafward.schema import counted
from tests import plain
from tests.plain import ANYTHING, EMPTY_ONLY, NOTHING

CATALAN = (1, 1, 2, 5, 14, 42, 132, 429, 1430)


def many_by_sums(parts, most):
    """For each size up to most: how many documents have which sums of their weighted labels, one for each part."""
    found = [{tuple(0 for _ in parts): 1}]
    for _ in range(most):
        grown = {}
        for sums, many in found[-1].items():
            for label in range(5):
                key = tuple((total + part[1][label]) % part[0] for total, part in zip(sums, parts))
                grown[key] = grown.get(key, 0) + many
        found.append(grown)
    return [{key: many * CATALAN[at] for key, many in row.items()} for at, row in enumerate(found)]


# Weights modulo 5, 6 and 10 with which the documents of sizes up to 8 make all sums.
WEIGHTS = (
    ((4, 4, 4, 2, 3), (4, 0, 1, 5, 1), (8, 9, 2, 1, 8)),
    ((3, 1, 4, 4, 0), (3, 1, 2, 0, 1), (9, 6, 9, 3, 7)),
)


class Counted(unittest.TestCase):
    def test_all_documents(self):
        self.assertEqual(counted(ANYTHING, 8), [CATALAN[n] * 5 ** n for n in range(9)])

    def test_most(self):
        for most in range(9):
            self.assertEqual(counted(ANYTHING, most), [CATALAN[n] * 5 ** n for n in range(most + 1)])
            self.assertEqual(counted(NOTHING, most), [0] * (most + 1))
            self.assertEqual(counted(EMPTY_ONLY, most), [1] + [0] * most)

    def test_rows_and_towers(self):
        rows = ((True, tuple((label, 1, 0) for label in range(5))), (True, ()))
        self.assertEqual(counted(rows, 8), [5 ** n for n in range(9)])
        towers = ((True, ((2, 0, 1), (4, 0, 1))), (True, ()))
        self.assertEqual(counted(towers, 8), [2 ** n for n in range(9)])
        self.assertEqual(counted(plain.rows_by_length(3), 8), [1, 0, 0, 1, 0, 0, 1, 0, 0])

    def test_a_document_is_counted_once(self):
        # Each document with a tree is allowed by several rules here.
        s = ((True, ((0, 0, 0), (0, 0, 1), (0, 1, 0), (0, 1, 1))), (True, ((0, 0, 0), (0, 1, 1))))
        self.assertEqual(counted(s, 8), list(CATALAN))

    def test_against_trying_all(self):
        rng = random.Random(31)
        found = [list(plain.documents(many, range(5))) for many in range(4)]
        for _ in range(25):
            s = plain.random_schema(rng, rng.randrange(1, 5), 14, range(5))
            expected = [sum(plain.plain_allows(s, d) for d in row) for row in found]
            self.assertEqual(counted(s, 3), expected, s)

    def test_against_trying_all_of_two_labels(self):
        rng = random.Random(32)
        found = [list(plain.documents(many, (1, 3))) for many in range(6)]
        for _ in range(12):
            s = plain.random_schema(rng, 3, 9, (1, 3))
            expected = [sum(plain.plain_allows(s, d) for d in row) for row in found]
            self.assertEqual(counted(s, 5), expected, s)

    def test_a_new_list_each_time(self):
        first = counted(ANYTHING, 3)
        first.append(7)
        first[0] = 9
        self.assertEqual(counted(ANYTHING, 3), [1, 5, 50, 625])
        self.assertIsNot(counted(EMPTY_ONLY, 0), counted(EMPTY_ONLY, 0))
        self.assertIsInstance(counted(EMPTY_ONLY, 0), list)

    def test_most_rules(self):
        parts = ((20, (1, 2, 3, 5, 7)),)
        rows = many_by_sums(parts, 8)
        self.assertEqual(counted(plain.sums(*parts), 8), [row.get((0,), 0) for row in rows])
        parts = ((14, (1, 2, 3, 5, 0)), (14, (1, 0, 9, 4, 4)))
        rows = many_by_sums(parts, 8)
        expected = [sum(many for key, many in row.items() if key[0] == 0) for row in rows]
        self.assertEqual(counted(plain.sums(*parts), 8), expected)

    def test_most_states(self):
        self.assertEqual(counted(plain.rows_by_length(59), 8), [1] + [0] * 8)
        rules = [(k, label, 59, (k + 1) % 59) for k in range(59) for label in (0, 3)]
        self.assertEqual(counted(plain.rule_schema([5, 59], rules, 60), 8), [0, 0, 0, 0, 0, 32, 0, 0, 0])
        self.assertEqual(counted(plain.all_rules(60, 0), 8), [1] + [0] * 8)

    def test_three_hundred_sets(self):
        for weights in WEIGHTS:
            parts = tuple(zip((5, 6, 10), weights))
            rows = many_by_sums(parts, 8)
            sets = set(itertools.chain(*rows))
            self.assertEqual(len(sets), 300)
            expected = [sum(many for key, many in row.items() if key[0] == 0) for row in rows]
            self.assertEqual(counted(plain.sums(*parts), 8), expected)

    def test_more_sets(self):
        parts = ((7, (1, 2, 3, 4, 5)), (7, (1, 3, 0, 4, 4)), (9, (2, 5, 3, 1, 0)))
        rows = many_by_sums(parts, 8)
        s = plain.sums(*parts)
        expected = [sum(many for key, many in row.items() if key[0] == 0) for row in rows]
        for most in range(9):
            many_sets = len(set(itertools.chain(*rows[:most + 1])))
            try:
                self.assertEqual(counted(s, most), expected[:most + 1])
            except TooMuch:
                self.assertGreater(many_sets, 300)


if __name__ == "__main__":
    unittest.main()
