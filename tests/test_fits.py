"""[5.1], [5.4]: whether transformations fit schemas, and the papers that tell it."""

import math
import random
import unittest

from leafward.comparing import within
from leafward.document import read
from leafward.errors import TooMuch
from leafward.fitting import accepts, fits
from leafward.schema import allows
from leafward.transformation import turned
from tests import plain
from tests import plain_turning as turning
from tests.plain import ANYTHING, EMPTY_ONLY, NOTHING
from tests.plain_turning import behind, inner, node

EVEN = plain.sums((2, (1, 1, 1, 1, 1)))
FOURS = plain.sums((4, (1, 1, 1, 1, 1)))
NO_ZEROS = ((True, tuple((a, 0, 0) for a in range(1, 5))),)
ROWS = ((True, tuple((a, 1, 0) for a in range(5))), (True, ()))


def triples(seed, many):
    """Small schemas and transformations, which often fit."""
    rng = random.Random(seed)
    for number in range(many):
        s = plain.random_schema(rng, rng.randrange(1, 4), 6, (0, 1))
        t = plain.random_schema(rng, rng.randrange(1, 3), 9, (0, 1))
        if number % 4 == 0:
            t = ((True, tuple((a, 0, 0) for a in range(number % 3 + 1))),)
        m = turning.SHARED[number % 20] if number % 20 < len(turning.SHARED) else turning.random_transformation(rng)
        yield s, m, t


class Fits(unittest.TestCase):
    def test_plain_cases(self):
        right = (
            (ANYTHING, turning.KEEP, ANYTHING), (EVEN, turning.KEEP, EVEN), (ANYTHING, turning.DROP_ALL, EMPTY_ONLY),
            (ANYTHING, turning.DROP_ZEROS, NO_ZEROS), (ANYTHING, turning.OPEN_ZEROS, NO_ZEROS),
            (ANYTHING, turning.DOUBLE, EVEN), (ANYTHING, turning.WRAP, EVEN), (EVEN, turning.TURN_ROUND, EVEN),
            (EVEN, turning.NEST, EVEN), (NOTHING, turning.BINARY, NOTHING), (ROWS, turning.TURN_ROUND, ROWS),
            (ROWS, turning.LEAVES, ROWS), (ANYTHING, turning.BINARY, ROWS),
        )
        for s, m, t in right:
            paper = fits(s, m, t)
            self.assertEqual(paper[0], "yes")
            self.assertTrue(turning.is_yes_paper(s, m, t, paper[1]))
            self.assertIs(accepts(s, m, t, paper), True)
        wrong = (
            (ANYTHING, turning.KEEP, EVEN, "0"), (EVEN, turning.KEEP, FOURS, "00"), (ANYTHING, turning.DROP_ZEROS, ROWS, "1(1)"),
            (ANYTHING, turning.DROP_ALL, NOTHING, ""), (ANYTHING, turning.KEEP, NO_ZEROS, "0"),
            (NO_ZEROS, turning.DOUBLE, FOURS, "1"), (ANYTHING, turning.OPEN_ZEROS, EVEN, "1"),
            (ROWS, turning.NEST, ROWS, "00"), (ANYTHING, turning.TURN_ROUND, ROWS, "0(0)"), (ROWS, turning.WRAP, ROWS, "0"),
            (ANYTHING, turning.WRAP, FOURS, "0"), (EVEN, turning.BINARY, EVEN, "10"), (ANYTHING, turning.BINARY, EVEN, "1"),
        )
        for s, m, t, text in wrong:
            self.assertEqual(fits(s, m, t), ("no", read(text)))

    def test_the_form_of_a_paper(self):
        word, profiles = fits(EVEN, turning.KEEP, EVEN)
        same, other = ((0, 0), (1, 1)), ((0, 1), (1, 0))
        self.assertEqual(word, "yes")
        self.assertEqual(set(profiles), {((0,), (), (same,)), ((1,), (), (other,))})
        self.assertEqual(fits(NOTHING, turning.DROP_ALL, NOTHING), ("yes", (((), (), (((0, 0),),)),)))

    def test_small_schemas(self):
        found = plain.documents_up_to(4, (0, 1))
        words = []
        for s, m, t in triples(181, 400):
            if turning.profiles_of(s, m, t, 25) is None:
                continue
            paper = fits(s, m, t)
            words.append(paper[0])
            self.hold_against(s, m, t, paper, found)
        self.assertGreater(words.count("yes"), 50)
        self.assertGreater(words.count("no"), 50)

    def hold_against(self, s, m, t, paper, found):
        self.assertTrue(accepts(s, m, t, paper), (s, m, t))
        least = next((d for d in found if turning.is_no_paper(s, m, t, d)), None)
        if paper[0] == "yes":
            self.assertIsNone(least, (s, m, t))
            self.assertTrue(turning.is_yes_paper(s, m, t, paper[1]), (s, m, t))
        elif least is not None:
            self.assertEqual(paper, ("no", least), (s, m, t))
        else:
            self.assertGreater(plain.plain_size(paper[1]), 4)
            self.assertTrue(turning.is_no_paper(s, m, t, paper[1]), (s, m, t))

    def test_all_labels(self):
        rng = random.Random(182)
        found = plain.documents_up_to(3, range(5))
        words = []
        for number in range(80):
            s = plain.random_schema(rng, 2, 12, range(5))
            t = plain.random_schema(rng, 2, 20, range(5))
            m = rng.choice(turning.SHARED)
            if turning.profiles_of(s, m, t, 15) is None:
                continue
            paper = fits(s, m, t)
            words.append(paper[0])
            least = next((d for d in found if turning.is_no_paper(s, m, t, d)), None)
            if paper[0] == "yes" or least is not None:
                self.assertEqual(least, paper[1] if paper[0] == "no" else None)
        self.assertGreater(min(words.count("no"), len(words)), 10)

    def test_what_keeps_all_fits_where_schemas_are_within_one_another(self):
        rng = random.Random(183)
        words = []
        for _ in range(80):
            s = plain.random_schema(rng, rng.randrange(1, 4), 9, (0, 1))
            t = plain.random_schema(rng, rng.randrange(1, 3), 6, (0, 1))
            paper = fits(s, turning.KEEP, t)
            expected = within(s, t)
            words.append(paper[0])
            self.assertEqual(paper[0], expected[0])
            if paper[0] == "no":
                self.assertEqual(paper, expected)
        self.assertGreater(min(words.count("yes"), words.count("no")), 20)

    def test_only_what_is_allowed_counts(self):
        # The transformation makes something wrong of trees 2 only.
        m = turning.plainly(((), lambda a: (node(0),) if a == 2 else (behind(),)))
        self.assertEqual(fits(ANYTHING, m, EMPTY_ONLY), ("no", read("2")))
        no_twos = ((True, tuple((a, 0, 0) for a in (0, 1, 3, 4))),)
        self.assertEqual(fits(no_twos, m, EMPTY_ONLY)[0], "yes")
        twos_within = ((True, tuple((a, 1, 0) for a in (0, 1, 3, 4))), (True, tuple((a, 1, 1) for a in range(5))))
        self.assertEqual(fits(twos_within, m, EMPTY_ONLY)[0], "yes")

    def test_only_the_first_state_counts(self):
        m = turning.plainly(((), lambda a: (behind(),)), ((node(0),), lambda a: (node(1, inner(), behind(1)),)))
        self.assertEqual(fits(ANYTHING, m, EMPTY_ONLY)[0], "yes")
        t = ((False, ()), (True, ()))
        self.assertEqual(fits(ANYTHING, m, t), ("no", ()))


class LeastDocuments(unittest.TestCase):
    def test_at_the_bounds(self):
        for d in (plain.bushy(300), plain.tower(30), plain.row(50), plain.row(20) + plain.tower(30)):
            for m in (turning.KEEP, turning.TURN_ROUND, turning.DROP_ALL):
                s = plain.only(d)
                self.assertEqual(fits(s, m, NOTHING), ("no", d))
                self.assertIs(accepts(s, m, NOTHING, ("no", d)), True)

    def test_beyond_the_bounds(self):
        for d in (plain.bushy(301), plain.bushy(1000), plain.tower(31), plain.tower(50), plain.row(20) + plain.tower(31)):
            for m in (turning.KEEP, turning.DROP_ALL):
                s = plain.only(d)
                self.assertRaises(TooMuch, fits, s, m, NOTHING)
                self.assertEqual(fits(s, m, ANYTHING)[0], "yes")

    def test_documents_that_double(self):
        for states in (8, 9, 20, 50):
            rules = [(k, 0, k + 1, k + 1) for k in range(states - 1)]
            s = plain.rule_schema([states - 1], rules, states)
            if states < 10:
                self.assertEqual(plain.size_of(fits(s, turning.KEEP, EMPTY_ONLY)[1]), 2 ** (states - 1) - 1)
            else:
                self.assertRaises(TooMuch, fits, s, turning.KEEP, EMPTY_ONLY)
            self.assertEqual(fits(s, turning.DROP_ALL, EMPTY_ONLY)[0], "yes")

    def test_only_the_least_document_counts(self):
        # The schema s allows a tower of 31 and a single tree.
        rules = [(k, 0, k + 1, 31) for k in range(31)] + [(0, 4, 31, 31)]
        s = plain.rule_schema([31], rules, 32)
        self.assertEqual(fits(s, turning.KEEP, NOTHING), ("no", read("4")))
        self.assertRaises(TooMuch, fits, s, turning.KEEP, plain.only(read("4")))

    def test_what_is_made_may_be_of_any_size(self):
        self.assertEqual(fits(plain.only(plain.row(50, 1)), turning.BINARY, NOTHING), ("no", plain.row(50, 1)))
        self.assertRaises(TooMuch, turned, turning.BINARY, plain.row(50, 1))
        self.assertEqual(fits(plain.only(plain.tower(30)), turning.DOUBLE, NOTHING), ("no", plain.tower(30)))
        self.assertEqual(fits(plain.only(plain.tower(30)), turning.DOUBLE, EVEN)[0], "yes")
        nested = turning.plainly((turning.nested(10), lambda a: (node(0, *turning.nested(9, (behind(),))),)))
        self.assertEqual(fits(plain.only(plain.row(50)), nested, NOTHING), ("no", plain.row(50)))


class Profiles(unittest.TestCase):
    def test_sixty_profiles(self):
        s = plain.rows_by_length(58)
        for m in (turning.KEEP, turning.DROP_ALL):
            paper = fits(s, m, s)
            self.assertEqual(paper[0], "yes")
            self.assertEqual(len(set(paper[1])), 60)
            self.assertIs(accepts(s, m, s, paper), True)
        m = turning.plainly(((), lambda a: (node(0, inner()), behind()) if a == 0 else (node(1),)))
        self.assertEqual(fits(s, m, s)[0], "yes")
        self.assertEqual(fits(s, m, plain.rows_by_length(1))[0], "yes")
        self.assertEqual(fits(s, m, plain.rows_by_length(2))[0], "yes")
        self.assertEqual(fits(plain.rows_by_length(1), m, plain.rows_by_length(58)), ("no", plain.row(1)))

    def test_more_profiles(self):
        for left, right in ((59, 59), (7, 9), (57, 58), (58, 29), (58, 58)):
            s, t = plain.rows_by_length(left), plain.rows_by_length(right)
            # Rows have one for each length up to this, and there are those of the empty document and of no rows.
            many = math.lcm(left, right) + 2
            try:
                paper = fits(s, turning.KEEP, t)
            except TooMuch:
                self.assertGreater(many, 60)
                continue
            self.assertIs(accepts(s, turning.KEEP, t, paper), True)
            self.assertEqual(paper[0], "yes" if left % right == 0 else "no")

    def test_profiles_of_states_that_are_not_used(self):
        # The second state tells more documents apart than the first one, and the looks yet others.
        looks = plain.sums((5, (1, 1, 1, 1, 1)))
        t = plain.sums((12, (1, 1, 1, 1, 1)))
        m = turning.plainly(
            ((), lambda a: ()), ((), lambda a: (node(a, inner(1)), behind(1))), looks=looks,
        )
        paper = fits(ANYTHING, m, t)
        self.assertEqual(paper[0], "yes")
        self.assertEqual(len(set(paper[1])), 60)


class Accepts(unittest.TestCase):
    def setUp(self):
        rules = [(0, 0, 1, 0), (0, 0, 2, 1), (1, 1, 0, 2), (1, 0, 2, 2), (2, 0, 0, 1), (2, 1, 1, 1)]
        self.s = plain.rule_schema([0, 2], rules, 3)
        self.m = turning.LEAVES
        self.t = ((True, ((0, 0, 0), (1, 1, 0), (3, 0, 1), (3, 1, 0))), (True, ((0, 1, 1), (1, 0, 1), (3, 0, 0))))
        self.paper = fits(self.s, self.m, self.t)
        self.profiles = self.paper[1]

    def accepted(self, profiles):
        return accepts(self.s, self.m, self.t, ("yes", profiles))

    def plainly_accepted(self, profiles):
        return turning.is_yes_paper(self.s, self.m, self.t, profiles)

    def test_what_fits_tells(self):
        self.assertEqual(self.paper[0], "yes")
        self.assertGreater(len(self.profiles), 5)
        self.assertTrue(self.plainly_accepted(self.profiles))
        self.assertIs(accepts(self.s, self.m, self.t, self.paper), True)

    def test_in_another_order_and_several_times(self):
        rng = random.Random(191)
        for _ in range(20):
            shuffled = tuple(rng.sample(self.profiles, len(self.profiles)))
            self.assertIs(self.accepted(shuffled), True)
            self.assertIs(self.accepted(shuffled + self.profiles[::2] + shuffled[::3]), True)
        self.assertIs(self.accepted(self.profiles[::-1]), True)

    def test_one_less(self):
        for at in range(len(self.profiles)):
            less = self.profiles[:at] + self.profiles[at + 1:]
            self.assertIs(self.accepted(less), False)
            self.assertIs(self.accepted(less + less), False)
        self.assertIs(self.accepted(()), False)

    def spoilt(self, profile):
        """Triples like the profile, one of its parts being another one."""
        left, looks, moves = profile
        sets = [tuple(q for q in range(3) if bits >> q & 1) for bits in range(8)]
        pairs = [(q, r) for q in range(2) for r in range(2)]
        for other in sets:
            yield (other, looks, moves)
        for other in ((), (0,)):
            yield (left, other, moves)
        for bits in range(16):
            yield (left, looks, (tuple(pair for at, pair in enumerate(pairs) if bits >> at & 1),))

    def test_one_spoilt(self):
        for at, profile in enumerate(self.profiles):
            for other in self.spoilt(profile):
                profiles = self.profiles[:at] + (other,) + self.profiles[at + 1:]
                self.assertIs(self.accepted(profiles), other == profile)

    def test_one_more(self):
        results = []
        for profile in self.profiles[::3]:
            for other in self.spoilt(profile):
                expected = self.plainly_accepted(self.profiles + (other,))
                results.append(expected)
                self.assertIs(self.accepted((other,) + self.profiles), expected)
        self.assertIn(True, results)
        self.assertIn(False, results)

    def test_profiles_that_are_not_needed(self):
        same, other = ((0, 0), (1, 1)), ((0, 1), (1, 0))
        profiles = (((0,), (), (same,)), ((1,), (), (other,)))
        args = (EVEN, turning.KEEP, EVEN)
        self.assertIs(accepts(*args, ("yes", profiles)), True)
        # Nobody has these, and what follows from them is there, or is not.
        none = ((), (), ((),))
        self.assertIs(accepts(*args, ("yes", profiles + (none,))), True)
        self.assertIs(accepts(*args, ("yes", profiles + (((), (), (same,)),))), False)
        self.assertIs(accepts(*args, ("yes", profiles + (((), (), (same,)), ((), (), (other,))))), True)
        self.assertIs(accepts(*args, ("yes", profiles + (none, ((), (), (same,)), ((), (), (other,))))), True)
        self.assertIs(accepts(*args, ("yes", profiles + (((0, 1), (), (same,)),))), False)
        self.assertIs(accepts(*args, ("yes", profiles + (none, ((0,), (), ((),))))), False)

    def test_closed_but_bad(self):
        found = tuple(turning.profiles_of(ANYTHING, turning.KEEP, EVEN))
        self.assertEqual(len(found), 2)
        self.assertIs(accepts(ANYTHING, turning.KEEP, EVEN, ("yes", found)), False)
        self.assertIs(accepts(NOTHING, turning.KEEP, EVEN, ("yes", tuple(((), b, c) for a, b, c in found))), True)

    def test_without_the_empty_document(self):
        # The pair is closed, but the empty document has another profile.
        s = plain.sums((2, (1, 1, 1, 1, 1)))
        s = ((False, s[0][1]), s[1], (True, ()))
        found = turning.profiles_of(s, turning.DROP_ALL, EMPTY_ONLY)
        self.assertIs(accepts(s, turning.DROP_ALL, EMPTY_ONLY, ("yes", tuple(found))), True)
        self.assertEqual(found[0][0], (2,))
        for at in range(len(found)):
            less = tuple(found[:at] + found[at + 1:])
            self.assertIs(accepts(s, turning.DROP_ALL, EMPTY_ONLY, ("yes", less)), False)

    def test_random_papers(self):
        rng = random.Random(192)
        results = []
        for s, m, t in triples(193, 200):
            found = turning.profiles_of(s, m, t, 15)
            if found is None:
                continue
            for _ in range(rng.randrange(3)):
                found.append((subset(rng, range(len(s))), rng.choice(found)[1], rng.choice(found)[2]))
            for _ in range(rng.randrange(2)):
                del found[rng.randrange(len(found))]
            expected = turning.is_yes_paper(s, m, t, found)
            results.append(expected)
            self.assertIs(accepts(s, m, t, ("yes", tuple(found))), expected)
        self.assertGreater(results.count(True), 15)
        self.assertGreater(results.count(False), 15)

    def test_how_many_profiles(self):
        many_times = self.profiles * 150
        for many in (60, 61, 149, 150):
            self.assertIs(self.accepted(many_times[:many]), True)
        self.assertIs(self.accepted(many_times[:151]), False)
        one = (((), (), (((0, 0),),)),)
        self.assertIs(accepts(NOTHING, turning.DROP_ALL, NOTHING, ("yes", one * 150)), True)
        self.assertIs(accepts(NOTHING, turning.DROP_ALL, NOTHING, ("yes", one * 151)), False)

    def test_many_different_profiles(self):
        # 5 sums of s, 5 of the looks and 6 of t: 150 profiles, more than fits has to tell.
        # The sums of s are in states behind the first one, which allows nothing: so all profiles are good.
        s = plain.sums((1, (0,) * 5), (5, (1, 0, 0, 1, 2)))
        s = ((False, ()),) + s[1:]
        t = plain.sums((6, (0, 0, 1, 1, 3)))
        m = turning.plainly(((), lambda a: (node(a, inner()), behind())), looks=plain.sums((5, (0, 1, 0, 2, 4))))
        profiles = tuple(
            ((k + 1,), (n,), (tuple((q, (q - r) % 6) for q in range(6)),)) for k in range(5) for n in range(5) for r in range(6)
        )
        self.assertEqual(len(set(profiles)), 150)
        self.assertIs(accepts(s, m, t, ("yes", profiles)), True)
        self.assertIs(accepts(s, m, t, ("yes", profiles[:149])), False)
        self.assertIs(accepts(s, m, t, ("yes", profiles + profiles[:1])), False)
        try:
            self.assertIs(accepts(s, m, t, fits(s, m, t)), True)
        except TooMuch:
            pass

    def test_truth_values_are_no_states(self):
        same, other = ((0, 0), (1, 1)), ((0, 1), (1, 0))
        args = (EVEN, turning.choosing(((True, ()),), ((), lambda a: ((-1, (node(a, inner()), behind())),))), EVEN)
        profiles = (((0,), (0,), (same,)), ((0,), (), (same,)), ((1,), (), (other,)))
        self.assertIs(accepts(*args, ("yes", profiles)), True)
        spoilt = (
            ((False,), (0,), (same,)), ((0,), (False,), (same,)), ((0,), (0,), (((0, False), (1, 1)),)),
            ((0,), (0,), (((False, 0), (1, 1)),)), ((0,), (0,), (((0, 0), (True, 1)),)), ((0,), (0,), (((0, 0), (1, True)),)),
        )
        for wrong in spoilt:
            self.assertEqual(wrong, profiles[0])
            self.assertIs(accepts(*args, ("yes", (wrong,) + profiles[1:])), False)
            self.assertIs(accepts(*args, ("yes", profiles + (wrong,))), False)
        wrong = ((True,), (), (other,))
        self.assertIs(accepts(*args, ("yes", profiles[:2] + (wrong,))), False)

    def test_sets_and_moves_that_are_none(self):
        left, looks, moves = self.profiles[0]
        sets = (
            (0, 0), (1, 0), (-1,), (3,), (0, 3), (True,), (None,), ("0",), ((),), ((0,),), "0", "", 0, None, True, (10 ** 30,),
        )
        for wrong in sets:
            self.assertIs(self.accepted(self.profiles + ((wrong, looks, moves),)), False)
            self.assertIs(self.accepted(self.profiles + ((left, wrong, moves),)), False)
        self.assertIs(self.accepted(self.profiles + ((left, (1,), moves),)), False)
        pairs = (
            (((0, 0), (0, 0)),), (((0, 1), (0, 0)),), (((1, 0), (0, 0)),), (((0, 2),),), (((2, 0),),), (((-1, 0),),),
            (((0, -1),),), (((0,),),), (((0, 0, 0),),), ((0, 0),), ((0,),), (("00",),), (((0, None),),), ((((), 0),),),
            ((None,),), ("",), (None,), (0,), (), moves + moves, moves + ((),), moves[0], None, "", 0, True,
            (((False, 0),),), (((0, True),),), (((0, 10 ** 30),),),
        )
        for wrong in pairs:
            self.assertIs(self.accepted(self.profiles + ((left, looks, wrong),)), False, wrong)
        for wrong in ((), (left,), (left, looks), (left, looks, moves, ()), (moves, looks, left), None, "", "abc", 0, True):
            self.assertIs(self.accepted(self.profiles + (wrong,)), False)

    def test_sets_and_moves_that_do_not_rise(self):
        # All is as in a paper, but for the order of states and pairs, or one that comes twice.
        for at, profile in enumerate(self.profiles):
            for other in out_of_order(profile):
                self.assertIs(self.accepted(self.profiles[:at] + (other,) + self.profiles[at + 1:]), False, other)
                self.assertIs(self.accepted(self.profiles + (other,)), False, other)
        self.assertGreater(sum(len(list(out_of_order(profile))) for profile in self.profiles), 20)

    def test_the_moves_of_each_state(self):
        paper = fits(NOTHING, turning.LEVELS, EVEN)
        self.assertIs(accepts(NOTHING, turning.LEVELS, EVEN, paper), True)
        less = tuple((a, b, moves[:2]) for a, b, moves in paper[1])
        more = tuple((a, b, moves + ((),)) for a, b, moves in paper[1])
        self.assertIs(accepts(NOTHING, turning.LEVELS, EVEN, ("yes", less)), False)
        self.assertIs(accepts(NOTHING, turning.LEVELS, EVEN, ("yes", more)), False)

    def test_no_papers(self):
        for text, expected in (("0", True), ("3(4)2", True), ("", False), ("00", False), ("0(0)00", False)):
            self.assertIs(accepts(ANYTHING, turning.KEEP, EVEN, ("no", read(text))), expected)
        for text, expected in (("00", True), ("3(4)", True), ("0", False), ("0000", False)):
            self.assertIs(accepts(EVEN, turning.KEEP, FOURS, ("no", read(text))), expected)
        self.assertIs(accepts(ANYTHING, turning.DROP_ALL, NOTHING, ("no", ())), True)
        self.assertIs(accepts(NOTHING, turning.DROP_ALL, NOTHING, ("no", ())), False)

    def test_random_no_papers(self):
        found = plain.documents_up_to(3, (0, 1))
        results = []
        for s, m, t in triples(194, 100):
            for d in found[::3]:
                expected = turning.is_no_paper(s, m, t, d)
                results.append(expected)
                self.assertIs(accepts(s, m, t, ("no", d)), expected)
                self.assertIs(expected, allows(s, d) and not allows(t, turning.plain_turned(m, d)))
        self.assertGreater(results.count(True), 50)

    def test_documents_in_papers(self):
        for d in plain.BAD_DOCUMENTS:
            self.assertIs(accepts(ANYTHING, turning.KEEP, NOTHING, ("no", d)), False)
        for d in (plain.row(300), plain.bushy(300), plain.tower(30), plain.row(270) + plain.tower(30)):
            for m in (turning.KEEP, turning.BINARY, turning.DOUBLE, turning.NEST):
                self.assertIs(accepts(ANYTHING, m, NOTHING, ("no", d)), True)
        # What is made has far more trees than may be told.
        self.assertIs(accepts(ANYTHING, turning.BINARY, EVEN, ("no", plain.row(300, 1))), True)
        self.assertIs(accepts(ANYTHING, turning.BINARY, EVEN, ("no", ((0, ()),) + plain.row(299, 1))), False)

    def test_what_is_no_paper(self):
        profiles = self.profiles
        papers = (
            (), ("yes",), ("no",), (profiles,), ("yes", profiles, ()), (profiles, "yes"), ("no", (), ()), ("Yes", profiles),
            ("", profiles), (0, profiles), (True, profiles), (None, profiles), (("yes",), profiles), ((), profiles),
            ("no", profiles), ("yes", None), ("yes", "yes"), ("yes", 0), ("yes", True), ("yes", ((),)), ("yes", (0,)),
            ("yes", profiles[0]), ("yes", (profiles,)), ("yes", plain.doubled(49)), plain.doubled(49), "yes", "no", "", 0, 1,
            None, True, False, (("yes", profiles),), ("y", "n"), "ab", ("maybe", profiles), ("yes ", profiles),
            ("yes", tuple((a, b) for a, b, c in profiles)), ("yes", tuple(c for a, b, c in profiles)),
        )
        for paper in papers:
            self.assertIs(accepts(self.s, self.m, self.t, paper), False)
        self.assertIs(accepts(ANYTHING, turning.KEEP, NOTHING, ("maybe", ())), False)
        self.assertIs(accepts(ANYTHING, turning.KEEP, NOTHING, ("no", read("0"))), True)

    def test_papers_of_other_arguments(self):
        paper = fits(EVEN, turning.DOUBLE, EVEN)
        self.assertIs(accepts(EVEN, turning.DOUBLE, EVEN, paper), True)
        self.assertIs(accepts(FOURS, turning.DOUBLE, EVEN, paper), False)
        self.assertIs(accepts(EVEN, turning.DOUBLE, FOURS, paper), False)
        self.assertIs(accepts(EVEN, turning.KEEP, EVEN, paper), False)
        self.assertIs(accepts(EVEN, turning.LEAVES, EVEN, paper), False)


def out_of_order(profile):
    """The profile with one of its sets or moves the other way round, or with an item of it twice."""
    left, looks, (pairs,) = profile
    for row, make in (
        (left, lambda row: (row, looks, (pairs,))), (looks, lambda row: (left, row, (pairs,))),
        (pairs, lambda row: (left, looks, (row,))),
    ):
        if len(row) > 1:
            yield make(row[::-1])
            yield make(row[1:] + row[:1])
        if row:
            yield make(row[:1] + row)
            yield make(row + row[-1:])


def subset(rng, states):
    return tuple(q for q in states if rng.random() < 0.5)


if __name__ == "__main__":
    unittest.main()
