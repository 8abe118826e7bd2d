"""[5.2], [5.3]: moves and profiles."""

import random
import unittest

from leafward.document import read, written
from leafward.fitting import first_profile, follows, move, profile
from leafward.schema import allows, set_of
from leafward.transformation import made
from tests import plain
from tests import plain_turning as turning
from tests.plain_turning import behind, inner, node

EVEN = plain.sums((2, (1, 1, 1, 1, 1)))


def as_told(pairs):
    return tuple(sorted(pairs))


def joined(left, right):
    return as_told({(q, r) for q, z in left for y, r in right if z == y})


class Move(unittest.TestCase):
    def test_texts(self):
        t = ((False, ((2, 1, 2), (3, 1, 0))), (True, ()), (True, ((2, 0, 1), (4, 1, 1))))
        cases = (
            ("", ((0, 0), (1, 1), (2, 2))), ("2", ((0, 2),)), ("3", ((0, 0),)), ("4", ((2, 1),)), ("24", ((0, 1),)),
            ("324", ((0, 1),)), ("42", ()), ("2(3)", ()), ("2(2)", ((2, 1),)), ("2(32)", ((2, 1),)), ("2(24)", ((2, 1),)),
            ("2(4)", ()), ("332", ((0, 2),)), ("0", ()), ("22(2)", ((0, 1),)),
        )
        for text, expected in cases:
            self.assertEqual(move(t, read(text)), expected, text)

    def test_small_schemas(self):
        rng = random.Random(161)
        found = plain.documents_up_to(3, (0, 1))
        for _ in range(60):
            t = plain.random_schema(rng, rng.randrange(1, 5), 12, (0, 1))
            for d in found:
                self.assertEqual(move(t, d), as_told(turning.plain_move(t, d)), (t, d))

    def test_many_states(self):
        rng = random.Random(162)
        for states, rules in ((12, 150), (60, 900), (60, 2000), (59, 1500)):
            for _ in range(4):
                t = plain.random_schema(rng, states, rules, (0, 1))
                for many in (0, 1, 2, 3, 5):
                    d = plain.drawn(rng, many, (0, 1))
                    self.assertEqual(move(t, d), as_told(turning.plain_move(t, d)))

    def test_one_behind_the_other(self):
        rng = random.Random(163)
        for _ in range(100):
            t = plain.random_schema(rng, rng.randrange(1, 7), 25, (0, 1))
            d, e = plain.drawn(rng, rng.randrange(5), (0, 1)), plain.drawn(rng, rng.randrange(5), (0, 1))
            self.assertEqual(move(t, d + e), joined(move(t, d), move(t, e)))

    def test_what_a_state_allows(self):
        rng = random.Random(164)
        for _ in range(60):
            t = plain.random_schema(rng, rng.randrange(1, 7), 25, (0, 1))
            d = plain.drawn(rng, rng.randrange(6), (0, 1))
            found = sorted({q for q, r in move(t, d) if t[r][0]})
            self.assertEqual(tuple(found), set_of(t, d))

    def test_large_documents(self):
        t = plain.rows_by_length(59)
        for many in (1, 58, 59, 60, 299, 300):
            self.assertEqual(move(t, plain.row(many)), tuple((k, (k + many) % 59) for k in range(59)))
        self.assertEqual(move(t, ()), tuple((k, k) for k in range(60)))
        for d in (plain.bushy(300), plain.tower(30) + plain.row(270)):
            self.assertEqual(move(t, d), ())
            self.assertEqual(move(EVEN, d), ((0, 0), (1, 1)))
            self.assertEqual(move(EVEN, d[1:]), ((0, 0), (1, 1)) if plain.size_of(d[1:]) % 2 == 0 else ((0, 1), (1, 0)))

    def test_all_pairs(self):
        t = ((True, tuple((0, x, y) for x in range(20) for y in range(20))),) * 5 + ((True, ()),) * 15
        self.assertEqual(move(t, plain.row(1)), tuple((q, r) for q in range(5) for r in range(20)))
        self.assertEqual(move(t, plain.row(300)), tuple((q, r) for q in range(5) for r in range(20)))


class Profile(unittest.TestCase):
    def schemas(self, rng):
        s = plain.random_schema(rng, rng.randrange(1, 4), 9, (0, 1))
        t = plain.random_schema(rng, rng.randrange(1, 4), 9, (0, 1))
        return s, t

    def test_the_form(self):
        s = ((True, ((0, 0, 0),)),)
        self.assertEqual(profile(s, turning.KEEP, EVEN, ()), ((0,), (), (((0, 0), (1, 1)),)))
        self.assertEqual(profile(s, turning.KEEP, EVEN, read("0")), ((0,), (), (((0, 1), (1, 0)),)))
        self.assertEqual(profile(s, turning.KEEP, EVEN, read("1")), ((), (), (((0, 1), (1, 0)),)))
        self.assertEqual(profile(s, turning.LEAVES, plain.NOTHING, read("1")), ((), (), ((),)))
        self.assertEqual(profile(s, turning.LEAVES, plain.NOTHING, ()), ((0,), (0,), (((0, 0),),)))
        texts = [written(made(turning.LEVELS, state, read("0(1)"))) for state in range(3)]
        self.assertEqual(texts, ["0(31(1(2)02))", "30(1(2)02)", "1(2)0"])
        t = plain.sums((2, (1, 0, 0, 0, 0)))
        moves = (((0, 0), (1, 1)), ((0, 0), (1, 1)), ((0, 1), (1, 0)))
        self.assertEqual(profile(t, turning.LEVELS, t, read("0(1)")), ((1,), (), moves))

    def test_shared_transformations(self):
        rng = random.Random(171)
        found = plain.documents_up_to(3, (0, 1)) + [read("2"), read("0(4)3")]
        for number, m in enumerate(turning.SHARED):
            with self.subTest(number=number):
                s, t = self.schemas(rng)
                for d in found:
                    self.assertEqual(profile(s, m, t, d), turning.plain_profile(s, m, t, d))
                self.assertEqual(first_profile(s, m, t), turning.plain_profile(s, m, t, ()))

    def test_random_transformations(self):
        rng = random.Random(172)
        found = plain.documents_up_to(4, (0, 1))
        for _ in range(100):
            s, t = self.schemas(rng)
            m = turning.random_transformation(rng, rng.randrange(1, 4), rng.randrange(1, 4))
            self.assertEqual(first_profile(s, m, t), turning.plain_profile(s, m, t, ()))
            for d in rng.sample(found, 6):
                self.assertEqual(profile(s, m, t, d), turning.plain_profile(s, m, t, d), (s, m, t, d))

    def test_what_follows(self):
        rng = random.Random(173)
        found = plain.documents_up_to(3, (0, 1))
        for number in range(100):
            s, t = self.schemas(rng)
            m = turning.SHARED[number] if number < len(turning.SHARED) else turning.random_transformation(rng, 3)
            for _ in range(5):
                label, kids, rest = rng.randrange(5), rng.choice(found), rng.choice(found)
                first, second = profile(s, m, t, kids), profile(s, m, t, rest)
                expected = profile(s, m, t, ((label, kids),) + rest)
                self.assertEqual(follows(s, m, t, label, first, second), expected)
                self.assertEqual(turning.plain_follows(s, m, t, label, first, second), expected)

    def test_profiles_tree_by_tree(self):
        rng = random.Random(174)
        for number, m in enumerate(turning.SHARED):
            with self.subTest(number=number):
                s, t = self.schemas(rng)
                for many in (5, 40):
                    d = plain.drawn(rng, many, (0, 1, 2))
                    self.assertEqual(by_follows(s, m, t, d), profile(s, m, t, d))

    def test_large_documents(self):
        ends = ((True, ()), (False, ()))
        for d in (plain.row(300), plain.bushy(300), plain.tower(30) + plain.row(270)):
            told = profile(EVEN, turning.KEEP, EVEN, d)
            self.assertEqual(told, ((0,), (), (((0, 0), (1, 1)),)))
            told = profile(EVEN, turning.DOUBLE, EVEN, d[1:])
            self.assertEqual(told[2], (((0, 0), (1, 1)),))
            # What is made has 2 to the power of 300 trees, and more.
            self.assertEqual(profile(EVEN, turning.BINARY, EVEN, ((1, ()),) + d[1:])[2], (((0, 1), (1, 0)),))
            self.assertEqual(profile(ends, turning.DROP_ALL, ends, d), ((), (), (((0, 0), (1, 1)),)))
        self.assertEqual(profile(EVEN, turning.BINARY, EVEN, plain.row(300, 1))[2], (((0, 1), (1, 0)),))

    def test_all_bounds_at_once(self):
        t = plain.rows_by_length(59)
        m = turning.plainly(*[((), lambda a: (node(0),) * 5 + (behind(),))] * 10)
        for d in (plain.row(300), plain.bushy(300)):
            told = profile(t, m, t, d)
            self.assertEqual(told[2], (tuple((k, (k + 5 * len(d)) % 59) for k in range(59)),) * 10)
        looks = plain.sums((8, (1, 2, 3, 4, 5)))
        m = turning.choosing(looks, *[((), lambda a: ((7, ()), (-1, (node(a), behind(11)))))] * 12)
        self.assertEqual(profile(t, m, t, plain.row(300))[1:], ((300 % 8,), (tuple((k, (k + 300) % 59) for k in range(59)),) * 12))

    def test_allowed_after_all(self):
        rng = random.Random(175)
        found = plain.documents_up_to(3, (0, 1))
        for _ in range(60):
            s, t = self.schemas(rng)
            m = turning.random_transformation(rng)
            for d in rng.sample(found, 6):
                told = profile(s, m, t, d)
                self.assertEqual(0 in told[0], allows(s, d))
                for state, pairs in enumerate(told[2]):
                    self.assertEqual(any(q == 0 and t[r][0] for q, r in pairs), allows(t, made(m, state, d)))
                    self.assertEqual(pairs, move(t, made(m, state, d)))


def by_follows(s, m, t, d):
    found = first_profile(s, m, t)
    for label, kids in reversed(d):
        found = follows(s, m, t, label, by_follows(s, m, t, kids), found)
    return found


class WhatIsMade(unittest.TestCase):
    def test_moves_of_several_levels(self):
        # The template nests what is made of the children within what is made of the rest.
        m = turning.plainly(((node(1),), lambda a: (node(0, behind(), node(a, inner(), behind())), inner())))
        rng = random.Random(176)
        for _ in range(30):
            t = plain.random_schema(rng, 4, 25, (0, 1))
            for d in plain.documents_up_to(2, (0, 1)):
                expected = as_told(turning.plain_move(t, turning.plain_turned(m, d)))
                self.assertEqual(profile(plain.NOTHING, m, t, d), ((), (), (expected,)))


if __name__ == "__main__":
    unittest.main()
