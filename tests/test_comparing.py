"""[4.1], [4.2]: schemas within one another, and the papers that tell it."""

import random
import unittest

from leafward.comparing import equal, takes, within
from leafward.document import read
from leafward.errors import TooMuch
from leafward.schema import set_of
from tests import plain
from tests.plain import ANYTHING, EMPTY_ONLY, NOTHING

# Documents with an even number of trees, those in which it is a multiple of 4, and rows of trees 0 or 1.
EVEN = plain.sums((2, (1, 1, 1, 1, 1)))
FOURS = plain.sums((4, (1, 1, 1, 1, 1)))
ROWS = ((True, ((0, 1, 0), (1, 1, 0))), (True, ()))


def random_pairs(seed, many):
    """Small schemas, two at a time, some of which have much in common."""
    rng = random.Random(seed)
    for number in range(many):
        s = plain.random_schema(rng, rng.randrange(1, 4), 7, (0, 1))
        t = plain.random_schema(rng, rng.randrange(1, 4), 9, (0, 1))
        if number % 3 == 0:
            t = with_more_rules(rng, s)
        yield s, t


def with_more_rules(rng, s):
    """A schema that allows all that s allows, and perhaps more."""
    rules = [(k,) + rule for k, (_, rules) in enumerate(s) for rule in rules]
    rules += [(rng.randrange(len(s)), rng.randrange(2), rng.randrange(len(s)), rng.randrange(len(s)))]
    return plain.rule_schema([k for k in range(len(s)) if s[k][0]], rules, len(s))


class Within(unittest.TestCase):
    def test_plain_cases(self):
        for s in (NOTHING, EMPTY_ONLY, ROWS, EVEN, FOURS, ANYTHING):
            self.assertEqual(within(s, s)[0], "yes")
            self.assertEqual(within(s, ANYTHING)[0], "yes")
            self.assertEqual(within(NOTHING, s)[0], "yes")
        self.assertEqual(within(FOURS, EVEN)[0], "yes")
        self.assertEqual(within(EVEN, FOURS), ("no", read("00")))
        self.assertEqual(within(ANYTHING, NOTHING), ("no", ()))
        self.assertEqual(within(ANYTHING, EMPTY_ONLY), ("no", read("0")))
        self.assertEqual(within(ANYTHING, ROWS), ("no", read("2")))
        self.assertEqual(within(ROWS, EVEN), ("no", read("0")))
        self.assertEqual(within(EVEN, ROWS), ("no", read("02")))

    def test_the_form_of_a_paper(self):
        word, pairs = within(EVEN, ANYTHING)
        self.assertEqual(word, "yes")
        self.assertEqual(set(pairs), {((0,), (0,)), ((1,), (0,))})
        self.assertEqual(within(NOTHING, NOTHING), ("yes", (((), ()),)))
        self.assertEqual(set(within(EMPTY_ONLY, EMPTY_ONLY)[1]), {((0,), (0,)), ((), ())})

    def test_small_schemas(self):
        found = plain.documents_up_to(4, (0, 1))
        words = []
        for s, t in random_pairs(41, 240):
            least = next((d for d in found if plain.plain_allows(s, d) and not plain.plain_allows(t, d)), None)
            paper = within(s, t)
            words.append(paper[0])
            self.hold_against(s, t, paper, least)
        self.assertGreater(words.count("yes"), 50)
        self.assertGreater(words.count("no"), 50)

    def hold_against(self, s, t, paper, least):
        self.assertTrue(takes(s, t, paper), (s, t))
        if paper[0] == "yes":
            self.assertIsNone(least)
            self.assertTrue(plain.is_yes_paper(s, t, paper[1]), (s, t))
        elif least is not None:
            self.assertEqual(paper, ("no", least), (s, t))
        else:
            self.assertGreater(plain.plain_size(paper[1]), 4)
            self.assertTrue(plain.plain_allows(s, paper[1]) and not plain.plain_allows(t, paper[1]), (s, t))

    def test_the_least_of_several(self):
        # Both schemas allow more than the other one, and the documents in question are of one size.
        s = ((False, ((0, 1, 2), (0, 2, 1), (2, 2, 1))), (False, ((0, 2, 2),)), (True, ()))
        self.assertEqual(within(s, NOTHING), ("no", read("00")))
        self.assertEqual(within(s, plain.only(read("00"))), ("no", read("0(0)")))
        t = ((False, ((0, 1, 2), (0, 2, 1))), (False, ((0, 2, 2),)), (True, ()))
        self.assertEqual(within(s, t), ("no", read("20")))

    def test_documents_at_the_bounds(self):
        self.assertEqual(within(plain.only(plain.bushy(300)), NOTHING), ("no", plain.bushy(300)))
        self.assertEqual(within(plain.only(plain.tower(30)), NOTHING), ("no", plain.tower(30)))
        self.assertEqual(within(plain.only(plain.row(50)), plain.only(plain.row(1))), ("no", plain.row(50)))

    def test_documents_beyond_the_bounds(self):
        for d in (plain.bushy(301), plain.bushy(1000), plain.tower(31), plain.tower(50)):
            self.assertRaises(TooMuch, within, plain.only(d), NOTHING)
            self.assertRaises(TooMuch, within, plain.only(d), EMPTY_ONLY)
            self.assertEqual(within(plain.only(d), plain.only(d))[0], "yes")
            self.assertEqual(within(NOTHING, plain.only(d))[0], "yes")

    def test_documents_that_double(self):
        for states in (20, 40, 50):
            rules = [(k, 0, k + 1, k + 1) for k in range(states - 1)]
            s = plain.rule_schema([states - 1], rules, states)
            self.assertRaises(TooMuch, within, s, NOTHING)
            self.assertEqual(within(s, s)[0], "yes")
            self.assertEqual(within(s, ANYTHING)[0], "yes")

    def test_only_the_least_document_counts(self):
        # The schema s allows a tower of 31 and a single tree.
        rules = [(k, 0, k + 1, 31) for k in range(31)] + [(0, 4, 31, 31)]
        s = plain.rule_schema([31], rules, 32)
        self.assertEqual(within(s, NOTHING), ("no", read("4")))
        self.assertRaises(TooMuch, within, s, plain.only(read("4")))

    def test_sixty_pairs_are_not_too_much(self):
        s = plain.rows_by_length(58)
        paper = within(s, s)
        self.assertEqual(len(set(paper[1])), 60)
        self.assertTrue(takes(s, s, paper))
        fives, twelves = plain.sums((5, (1, 1, 1, 1, 1))), plain.sums((12, (1, 1, 1, 1, 1)))
        self.assertEqual(within(fives, twelves), ("no", plain.row(5)))
        self.assertEqual(within(twelves, fives), ("no", plain.row(12)))

    def test_sixty_pairs_with_the_only_document_at_the_end(self):
        # Of all rows the schema t refuses those whose length is 57, 57 + 58 and so on.
        s = plain.rows_by_length(1)
        rules = [(k, 0, 58, (k + 1) % 58) for k in range(58)]
        t = plain.rule_schema([k for k in range(59) if k != 57], rules, 59)
        self.assertEqual(within(s, t), ("no", plain.row(57)))

    def test_more_pairs(self):
        s = plain.rows_by_length(59)
        self.right_or_too_much(s, s, "yes")
        self.right_or_too_much(s, plain.rows_by_length(57), ("no", plain.row(59)))
        sevens, nines = plain.sums((7, (1, 1, 1, 1, 1))), plain.sums((9, (1, 1, 1, 1, 1)))
        self.right_or_too_much(sevens, nines, ("no", plain.row(7)))

    def right_or_too_much(self, s, t, expected):
        try:
            paper = within(s, t)
        except TooMuch:
            return
        self.assertTrue(takes(s, t, paper))
        self.assertIn(expected, (paper, paper[0]))


class Takes(unittest.TestCase):
    def setUp(self):
        rules = [(0, 0, 1, 0), (0, 0, 2, 1), (1, 1, 0, 2), (1, 0, 2, 2), (2, 0, 0, 1), (2, 1, 1, 1)]
        self.s = plain.rule_schema([0, 2], rules, 3)
        self.paper = within(self.s, self.s)
        self.pairs = self.paper[1]

    def test_what_within_tells(self):
        self.assertIs(takes(self.s, self.s, self.paper), True)
        self.assertGreater(len(self.pairs), 3)
        self.assertIs(takes(EVEN, FOURS, within(EVEN, FOURS)), True)

    def test_in_another_order_and_several_times(self):
        rng = random.Random(43)
        for _ in range(20):
            shuffled = tuple(rng.sample(self.pairs, len(self.pairs)))
            self.assertIs(takes(self.s, self.s, ("yes", shuffled)), True)
            self.assertIs(takes(self.s, self.s, ("yes", shuffled + self.pairs[::2] + shuffled)), True)

    def test_one_less(self):
        for at in range(len(self.pairs)):
            less = self.pairs[:at] + self.pairs[at + 1:]
            self.assertIs(takes(self.s, self.s, ("yes", less)), False)
            self.assertIs(takes(self.s, self.s, ("yes", less + less)), False)
        self.assertIs(takes(self.s, self.s, ("yes", ())), False)

    def test_one_more(self):
        sets = [tuple(q for q in range(3) if bits >> q & 1) for bits in range(8)]
        results = []
        for more in [(a, b) for a in sets for b in sets]:
            expected = plain.is_yes_paper(self.s, self.s, self.pairs + (more,))
            results.append(expected and more not in self.pairs)
            self.assertIs(takes(self.s, self.s, ("yes", (more,) + self.pairs)), expected)
        self.assertTrue(any(results) or len(self.pairs) == 8)

    def test_pairs_that_are_not_needed(self):
        pairs = (((0,), (0,)), ((1,), (0,)))
        self.assertIs(takes(EVEN, ANYTHING, ("yes", pairs)), True)
        # No document has these pairs, but what follows from them is there.
        self.assertIs(takes(EVEN, ANYTHING, ("yes", pairs + (((), (0,)),))), True)
        self.assertIs(takes(EVEN, ANYTHING, ("yes", pairs + (((), ()), ((), (0,))))), True)
        self.assertIs(takes(EVEN, ANYTHING, ("yes", pairs + (((), ()),))), True)
        # State 0 is in the first set and not in the second one.
        self.assertIs(takes(EVEN, ANYTHING, ("yes", pairs + (((), ()), ((0,), ())))), False)
        # It follows from a pair with both states that there is one without.
        self.assertIs(takes(EVEN, ANYTHING, ("yes", pairs + (((0, 1), (0,)),))), True)
        self.assertIs(takes(FOURS, ANYTHING, ("yes", within(FOURS, ANYTHING)[1] + (((0, 1), (0,)),))), False)

    def test_closed_but_bad(self):
        pairs = tuple(plain.pairs_of(EVEN, FOURS))
        self.assertEqual(plain.closed_once(EVEN, FOURS, pairs), set(pairs))
        self.assertIs(takes(EVEN, FOURS, ("yes", pairs)), False)
        self.assertIs(takes(FOURS, EVEN, ("yes", tuple((b, a) for a, b in pairs))), True)

    def test_one_spoilt(self):
        sets = [tuple(q for q in range(3) if bits >> q & 1) for bits in range(8)]
        for at, (a, b) in enumerate(self.pairs):
            for other in sets:
                for spoilt in ((other, b), (a, other), (other, other)):
                    pairs = self.pairs[:at] + (spoilt,) + self.pairs[at + 1:]
                    expected = spoilt == self.pairs[at]
                    self.assertIs(takes(self.s, self.s, ("yes", pairs)), expected)

    def test_sets_that_are_none(self):
        sets = (
            (0, 0), (1, 0), (-1,), (3,), (0, 3), (True,), (False,), (0, True), (None,), ("0",), ((),), ((0,),),
            "0", "", 0, None, True, False, (10 ** 30,),
        )
        for wrong in sets:
            for more in ((wrong, (0,)), ((), wrong), (wrong, wrong)):
                self.assertIs(takes(self.s, self.s, ("yes", self.pairs + (more,))), False)
        for wrong in ((2, 0), (0, 0, 2), (0, 2, 2), (False, 2)):
            pairs = tuple((wrong, b) if a == (0, 2) else (a, b) for a, b in self.pairs)
            self.assertIs(takes(self.s, self.s, ("yes", pairs)), False)
            pairs = tuple((a, wrong) if b == (0, 2) else (a, b) for a, b in self.pairs)
            self.assertIs(takes(self.s, self.s, ("yes", pairs)), False)

    def test_truth_values_are_no_states(self):
        paper = within(EVEN, EVEN)
        self.assertEqual(set(paper[1]), {((0,), (0,)), ((1,), (1,))})
        pairs = (((0,), (0,)), ((1,), (1,)))
        self.assertIs(takes(EVEN, EVEN, ("yes", pairs)), True)
        for wrong in (((False,), (0,)), ((0,), (False,)), ((True,), (1,)), ((1,), (True,))):
            right = tuple(pair for pair in pairs if pair != wrong)
            self.assertIs(takes(EVEN, EVEN, ("yes", right + (wrong,))), False)
            self.assertIs(takes(EVEN, EVEN, ("yes", pairs + (wrong,))), False)

    def test_the_states_of_each_schema(self):
        self.assertIs(takes(FOURS, EVEN, within(FOURS, EVEN)), True)
        pairs = within(FOURS, EVEN)[1]
        self.assertIs(takes(FOURS, EVEN, ("yes", pairs + (((), (2,)),))), False)
        self.assertIs(takes(EVEN, FOURS, ("yes", pairs)), False)

    def test_how_many_pairs(self):
        for many in (149, 150):
            pairs = (self.pairs * 150)[:many]
            self.assertIs(takes(self.s, self.s, ("yes", pairs)), True)
        self.assertIs(takes(self.s, self.s, ("yes", (self.pairs * 150)[:151])), False)
        self.assertIs(takes(NOTHING, NOTHING, ("yes", (((), ()),) * 150)), True)
        self.assertIs(takes(NOTHING, NOTHING, ("yes", (((), ()),) * 151)), False)

    def test_many_different_pairs(self):
        # 11 times 13 pairs; more than within has to tell, but not more than a paper may hold.
        s, t = plain.sums((11, (1, 1, 1, 1, 1))), plain.sums((13, (1, 1, 1, 1, 1)))
        turned = tuple((True, rules) for _, rules in t)
        pairs = tuple(((k % 11,), (k % 13,)) for k in range(143))
        self.assertIs(takes(s, t, ("yes", pairs)), False)
        all_pairs = tuple(((k,), tuple(range(13))) for k in range(11))
        self.assertIs(takes(s, turned, ("yes", all_pairs)), True)
        self.assertIs(takes(s, turned, ("yes", all_pairs + ((tuple(range(11)), tuple(range(13))),))), True)

    def test_no_papers(self):
        self.assertIs(takes(EVEN, FOURS, ("no", read("00"))), True)
        self.assertIs(takes(EVEN, FOURS, ("no", read("3(4)"))), True)
        for text in ("", "0", "000", "0000", "1(2(3(4)))"):
            self.assertIs(takes(EVEN, FOURS, ("no", read(text))), False)
        self.assertIs(takes(FOURS, EVEN, ("no", read("00"))), False)
        self.assertIs(takes(ANYTHING, NOTHING, ("no", ())), True)

    def test_documents_in_papers(self):
        for d in plain.BAD_DOCUMENTS:
            self.assertIs(takes(ANYTHING, NOTHING, ("no", d)), False)
        for d in (plain.row(300), plain.bushy(300), plain.tower(30)):
            self.assertIs(takes(ANYTHING, NOTHING, ("no", d)), True)
        self.assertIs(takes(ANYTHING, NOTHING, ("no", ((1, ()),))), True)
        self.assertIs(takes(ANYTHING, NOTHING, ("no", ((True, ()),))), False)

    def test_what_is_no_paper(self):
        pairs = self.pairs
        papers = (
            (), ("yes",), ("no",), (pairs,), ("yes", pairs, ()), (pairs, "yes"), ("no", (), ()), ("Yes", pairs),
            ("", pairs), (0, pairs), (True, pairs), (None, pairs), (("yes",), pairs), ((), pairs), ("no", pairs),
            ("yes", None), ("yes", "yes"), ("yes", 0), ("yes", True), ("yes", ((),)), ("yes", (0,)), ("yes", pairs[0]),
            ("yes", pairs + ((),)), ("yes", pairs + (None,)), ("yes", pairs + ("ab",)), ("yes", pairs + (pairs[0] + ((),),)),
            ("yes", pairs + (pairs[0][:1],)), ("yes", (pairs,)), ("yes", plain.doubled(49)), plain.doubled(49),
            "yes", "no", "", 0, 1, None, True, False, (("yes", pairs),), ("y", "n"), "ab",
        )
        for paper in papers:
            self.assertIs(takes(self.s, self.s, paper), False)
        self.assertIs(takes(ANYTHING, NOTHING, ("maybe", ())), False)
        self.assertIs(takes(ANYTHING, NOTHING, (True, ())), False)

    def test_random_papers(self):
        rng = random.Random(47)
        results = []
        for s, t in random_pairs(44, 150):
            pairs = list(plain.pairs_of(s, t))
            for _ in range(rng.randrange(3)):
                pairs.append((sorted_subset(rng, len(s)), sorted_subset(rng, len(t))))
            expected = plain.is_yes_paper(s, t, pairs)
            results.append(expected)
            self.assertIs(takes(s, t, ("yes", tuple(pairs))), expected, (s, t, pairs))
        self.assertGreater(results.count(True), 15)
        self.assertGreater(results.count(False), 15)


def sorted_subset(rng, many):
    return tuple(q for q in range(many) if rng.random() < 0.5)


class Equal(unittest.TestCase):
    def test_plain_cases(self):
        found = (NOTHING, EMPTY_ONLY, ROWS, EVEN, FOURS, ANYTHING)
        for s in found:
            for t in found:
                self.assertIs(equal(s, t), s == t)

    def test_states_in_another_order(self):
        rng = random.Random(51)
        for s, _ in random_pairs(52, 40):
            places = [0] + rng.sample(range(1, len(s)), len(s) - 1)
            rules = [(places[k], a, places[x], places[y]) for k, (_, row) in enumerate(s) for a, x, y in row]
            t = plain.rule_schema([places[k] for k in range(len(s)) if s[k][0]], rules, len(s))
            self.assertIs(equal(s, t), True)

    def test_another_first_state(self):
        self.assertIs(equal(EVEN, (EVEN[1], EVEN[0])), False)

    def test_states_that_come_twice(self):
        rng = random.Random(53)
        for s, _ in random_pairs(54, 40):
            many = len(s)
            rules = []
            for k, (_, row) in enumerate(s):
                for a, x, y in row:
                    for copy in (k, k + many):
                        rules.append((copy, a, x + many * rng.randrange(2), y + many * rng.randrange(2)))
            t = plain.rule_schema([k for k in range(2 * many) if s[k % many][0]], rules, 2 * many)
            self.assertIs(equal(s, t), True)

    def test_states_that_allow_nothing(self):
        for s, _ in random_pairs(55, 40):
            many = len(s)
            rules = [(k,) + rule for k, (_, row) in enumerate(s) for rule in row]
            rules += [(k, 0, many, k) for k in range(many)] + [(k, 1, k, many) for k in range(many)]
            rules += [(many, 0, many, 0), (many, 2, 0, many)]
            t = plain.rule_schema([k for k in range(many) if s[k][0]], rules, many + 1)
            self.assertIs(equal(s, t), True)

    def test_against_within(self):
        results = []
        found = plain.documents_up_to(4, (0, 1))
        for s, t in random_pairs(56, 150):
            expected = within(s, t)[0] == "yes" and within(t, s)[0] == "yes"
            results.append(expected)
            self.assertIs(equal(s, t), expected)
            self.assertIs(equal(t, s), expected)
            if expected:
                self.assertTrue(all(plain.plain_allows(s, d) == plain.plain_allows(t, d) for d in found))
        self.assertGreater(results.count(True), 10)

    def test_at_the_bounds(self):
        for d in (plain.bushy(300), plain.tower(30)):
            self.assertIs(equal(plain.only(d), NOTHING), False)
            self.assertIs(equal(NOTHING, plain.only(d)), False)
        for d in (plain.bushy(301), plain.tower(31)):
            self.assertRaises(TooMuch, equal, plain.only(d), NOTHING)
            self.assertRaises(TooMuch, equal, NOTHING, plain.only(d))
            self.assertIs(equal(plain.only(d), plain.only(d)), True)

    def test_sixty_pairs(self):
        self.assertIs(equal(plain.rows_by_length(58), plain.rows_by_length(58)), True)


class Sets(unittest.TestCase):
    def test_what_follows(self):
        # The set follows from the label and the sets of the children and of the rest alone.
        rng = random.Random(61)
        found = plain.documents_up_to(2, (0, 1, 2))
        for _ in range(30):
            s = plain.random_schema(rng, 4, 20, (0, 1, 2))
            for _ in range(40):
                label, kids, rest = rng.randrange(3), rng.choice(found), rng.choice(found)
                expected = plain.follows(s, label, set_of(s, kids), set_of(s, rest))
                self.assertEqual(set_of(s, ((label, kids),) + rest), expected)


if __name__ == "__main__":
    unittest.main()
