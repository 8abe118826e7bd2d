"""[2.1], [2.2], [2.3]: what schemas are, and what they allow."""

import random
import unittest

from leafward.comparing import equal, takes, within
from leafward.document import read
from leafward.errors import BadDocument, BadSchema
from leafward.schema import allows, check_schema, counted, least, set_of
from tests import plain
from tests.plain import ANYTHING, EMPTY_ONLY, NOTHING


class Form(unittest.TestCase):
    def test_schemas(self):
        right = (
            NOTHING, EMPTY_ONLY, ANYTHING,
            ((False, ((0, 0, 0), (0, 0, 1), (0, 1, 0), (1, 0, 0), (4, 1, 1))), (True, ())),
            plain.rows_by_length(50), plain.only(plain.bushy(300)), plain.sums((6, (0, 1, 2, 3, 4))),
        )
        for s in right:
            self.assertIsNone(check_schema(s))

    def test_at_the_bounds(self):
        self.assertIsNone(check_schema(((True, ()),) * 60))
        self.assertIsNone(check_schema(plain.all_rules(60, 2000)))
        self.assertIsNone(check_schema(plain.sums((20, (1, 1, 1, 1, 1)))))
        self.assertIsNone(check_schema(((True, plain.all_rules(20, 40000)[0][1]),) + ((False, ()),) * 19))
        last = ((True, ((4, 59, 59),)),) + ((False, ()),) * 59
        self.assertIsNone(check_schema(last))

    def test_one_beyond_the_bounds(self):
        self.assertRaises(BadSchema, check_schema, ((True, ()),) * 61)
        self.assertRaises(BadSchema, check_schema, plain.all_rules(60, 2001))
        one_more = (4, 20, 20)
        states = plain.all_rules(20, 40000)
        s = ((True, states[0][1]),) + ((False, (one_more,)),) + ((False, ()),) * 19
        self.assertRaises(BadSchema, check_schema, s)

    def test_other_forms(self):
        for number, s in enumerate(plain.BAD_SCHEMAS):
            with self.subTest(number=number):
                self.assertRaises(BadSchema, check_schema, s)

    def test_every_rule_must_rise(self):
        rules = plain.all_rules(5, 30)[0][1]
        self.assertIsNone(check_schema(((True, rules),) + plain.all_rules(5, 0)[1:]))
        for at in range(len(rules) - 1):
            swapped = rules[:at] + (rules[at + 1], rules[at]) + rules[at + 2:]
            twice = rules[:at] + (rules[at],) + rules[at:]
            for wrong in (swapped, twice):
                self.assertRaises(BadSchema, check_schema, ((True, wrong),) + plain.all_rules(5, 0)[1:])


class Refused(unittest.TestCase):
    def test_schemas_in_every_place(self):
        calls = (
            least, lambda s: counted(s, 0), lambda s: counted(s, 3), lambda s: allows(s, ()), lambda s: set_of(s, ()),
            lambda s: within(s, ANYTHING), lambda s: within(ANYTHING, s), lambda s: equal(s, ANYTHING),
            lambda s: equal(ANYTHING, s), lambda s: equal(s, s), lambda s: within(s, s),
            lambda s: takes(s, ANYTHING, ("no", ())), lambda s: takes(ANYTHING, s, ("no", ())),
            lambda s: takes(s, ANYTHING, ()), lambda s: takes(ANYTHING, s, ()),
        )
        for number, s in enumerate(plain.BAD_SCHEMAS):
            for call in calls:
                with self.subTest(number=number):
                    self.assertRaises(BadSchema, call, s)

    def test_documents(self):
        for number, d in enumerate(plain.BAD_DOCUMENTS):
            with self.subTest(number=number):
                self.assertRaises(BadDocument, allows, ANYTHING, d)
                self.assertRaises(BadDocument, set_of, ANYTHING, d)

    def test_the_schema_is_looked_at_first(self):
        for number, s in enumerate(plain.BAD_SCHEMAS):
            with self.subTest(number=number):
                self.assertRaises(BadSchema, allows, s, plain.row(301))
                self.assertRaises(BadSchema, set_of, s, (0,))


class Allows(unittest.TestCase):
    def test_the_empty_document(self):
        self.assertIs(allows(EMPTY_ONLY, ()), True)
        self.assertIs(allows(NOTHING, ()), False)
        self.assertIs(allows(((False, ()), (True, ())), ()), False)
        self.assertIs(allows(((True, ()), (False, ())), ()), True)

    def test_inside_and_next_are_not_mixed_up(self):
        # A tree 2 with a tree 3 as its child, before a tree 4.
        s = ((False, ((2, 1, 2),)), (False, ((3, 3, 3),)), (False, ((4, 3, 3),)), (True, ()))
        self.assertIs(allows(s, read("2(3)4")), True)
        for text in ("", "2", "24", "2(4)3", "2(3)", "2(3)44", "3", "2(3(0))4", "2(33)4", "2(3)4(0)"):
            self.assertIs(allows(s, read(text)), False)
        self.assertEqual(set_of(s, read("3")), (1,))
        self.assertEqual(set_of(s, read("4")), (2,))
        self.assertEqual(set_of(s, ()), (3,))
        self.assertEqual(set_of(s, read("0")), ())

    def test_small_schemas(self):
        rng = random.Random(11)
        found = plain.documents_up_to(3, (0, 1, 4))
        for _ in range(60):
            s = plain.random_schema(rng, rng.randrange(1, 5), 16, (0, 1, 4))
            for d in found:
                expected = plain.plain_set(s, d)
                self.assertEqual(set_of(s, d), tuple(sorted(expected)))
                self.assertIs(allows(s, d), 0 in expected)

    def test_random_documents_of_many_states(self):
        rng = random.Random(12)
        found = list(plain.documents(4, (0, 1, 2)))
        for _ in range(20):
            s = plain.random_schema(rng, 60, 900, (0, 1, 2))
            for d in rng.sample(found, 20):
                self.assertEqual(set_of(s, d), tuple(sorted(plain.plain_set(s, d))))

    def test_rows_with_many_states(self):
        s = plain.rows_by_length(59)
        for many in (0, 1, 58, 59, 60, 117, 118, 119, 294, 295, 296, 300):
            expected = (0, 59) if many == 0 else ((-many) % 59,)
            self.assertEqual(set_of(s, plain.row(many)), expected)
            self.assertIs(allows(s, plain.row(many)), many % 59 == 0)

    def test_towers_with_many_states(self):
        # State k allows the towers of k trees; state 59 those that are 29 high or more.
        rules = [(k, 0, k - 1, 0) for k in range(1, 59)] + [(59, 0, 28, 0), (59, 0, 59, 0)]
        s = plain.rule_schema([0], rules, 60)
        self.assertEqual(set_of(s, ()), (0,))
        self.assertEqual(set_of(s, plain.tower(28)), (28,))
        self.assertEqual(set_of(s, plain.tower(29)), (29, 59))
        self.assertEqual(set_of(s, plain.tower(30)), (30, 59))
        self.assertEqual(set_of(s, plain.tower(30, 1)), ())
        self.assertEqual(set_of(s, plain.tower(30) + plain.row(1)), ())

    def test_at_all_bounds_at_once(self):
        s = plain.sums((20, (1, 1, 1, 1, 1)))
        for d in (plain.row(300), plain.bushy(300), plain.tower(30) + plain.row(270)):
            self.assertEqual(set_of(s, d), (0,))
            self.assertEqual(set_of(s, d[:-1]), ((300 - plain.plain_size(d[-1:])) % 20,))


if __name__ == "__main__":
    unittest.main()
