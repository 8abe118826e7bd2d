"""[3.3]: what transformations make of documents."""

import random
import unittest

from leafward.document import check_document, read, written
from leafward.errors import TooMuch
from leafward.transformation import made, turned
from tests import plain
from tests import plain_turning as turning
from tests.plain_turning import behind, inner, node


class Turned(unittest.TestCase):
    def test_texts(self):
        cases = (
            (turning.KEEP, "0(12)3", "0(12)3"), (turning.DROP_ALL, "0(12)3", ""), (turning.DROP_ZEROS, "10(1)1(02)0", "11(2)"),
            (turning.OPEN_ZEROS, "10(10(2))3(0(0))", "1123"), (turning.DOUBLE, "1(2)3", "1(22)1(22)33"),
            (turning.WRAP, "0(12)3", "4(0(4(1)4(2)))4(3)"), (turning.TURN_ROUND, "0(12)3", "30(21)"),
            (turning.NEST, "0(12)3", "0(1(2)3)"), (turning.SWAP, "0(12)3", "0(3)1(2)"),
            (turning.LEAVES, "0(12)3", "0(33)3"), (turning.LEAVES, "", ""), (turning.BINARY, "101", "00000"),
        )
        for m, before, after in cases:
            self.assertEqual(written(turned(m, read(before))), after)

    def test_shared_transformations(self):
        found = plain.documents_up_to(3, (0, 1, 4))
        for number, m in enumerate(turning.SHARED):
            with self.subTest(number=number):
                for d in found:
                    self.assertEqual(turned(m, d), turning.plain_turned(m, d))
                    for state in range(len(m[1])):
                        self.assertEqual(made(m, state, d), turning.plain_made(m, state, d))

    def test_random_transformations(self):
        rng = random.Random(111)
        found = plain.documents_up_to(4, (0, 1))
        for _ in range(150):
            m = turning.random_transformation(rng, rng.randrange(1, 4), rng.randrange(1, 3))
            for d in rng.sample(found, 20):
                self.assertEqual(turned(m, d), turning.plain_turned(m, d), (m, d))
                for state in range(len(m[1])):
                    self.assertEqual(made(m, state, d), turning.plain_made(m, state, d), (m, d))

    def test_the_first_choice_that_may_be_taken(self):
        looks = ((True, ()), (True, ((0, 0, 0),)))
        m = turning.choosing(looks, ((), lambda a: ((0, (node(0),)), (1, (node(1),)), (0, (node(2),)), (-1, (node(3),)))))
        for text, expected in (("2", "0"), ("2(0)", "1"), ("2(00)", "3"), ("2(0)1(1)", "1"), ("2(1)", "3"), ("", "")):
            self.assertEqual(written(turned(m, read(text))), expected)
        m = turning.choosing(looks, ((), lambda a: ((1, (node(1),)), (0, (node(0),)), (-1, (node(3),)))))
        for text, expected in (("2", "1"), ("2(0)", "1"), ("2(00)", "3")):
            self.assertEqual(written(turned(m, read(text))), expected)

    def test_looks_are_about_the_children_alone(self):
        m = turning.choosing(((True, ()),), ((), lambda a: ((0, (node(1), behind())), (-1, (node(2), inner(), behind())))))
        self.assertEqual(written(turned(m, read("00(0)0"))), "1211")

    def test_looks_at_the_last_of_eight_states(self):
        looks = ((False, ()),) * 7 + ((True, ()),)
        m = turning.choosing(looks, ((), lambda a: ((7, (node(1),)), (-1, (node(2),)))))
        self.assertEqual(turned(m, read("0")), read("1"))
        self.assertEqual(turned(m, read("0(0)")), read("2"))

    def test_the_end_of_each_state(self):
        m = turning.LEVELS
        self.assertEqual(made(m, 0, ()), ())
        self.assertEqual(made(m, 1, ()), read("3"))
        self.assertEqual(made(m, 2, ()), read("1(2)0"))
        self.assertEqual(turned(m, ()), ())
        self.assertEqual(turned(m, read("4")), read("4(3)"))

    def test_what_is_told_is_a_document(self):
        for m in turning.SHARED:
            self.assertIsNone(check_document(turned(m, read("0(12)3"))))


class LargeDocuments(unittest.TestCase):
    def test_at_the_bounds_of_what_is_handed_in(self):
        largest = (plain.row(300), plain.bushy(300), plain.tower(30) + plain.row(270), plain.row(270) + plain.tower(30))
        for d in largest:
            self.assertEqual(turned(turning.KEEP, d), d)
            self.assertEqual(turned(turning.DROP_ALL, d), ())
            self.assertEqual(turned(turning.TURN_ROUND, turned(turning.TURN_ROUND, d)), d)
            self.assertEqual(turned(turning.OPEN_ZEROS, d), ())
            self.assertEqual(turned(turning.OPEN_ZEROS, plain_labelled(d, 1)), plain_labelled(d, 1))
            self.assertEqual(turning.depth(turned(turning.WRAP, d)), 2 * turning.depth(d))
            self.assertEqual(plain.size_of(turned(turning.WRAP, d)), 600)
            self.assertEqual(plain.size_of(turned(turning.LEAVES, d)), 300)

    def test_rows_that_are_turned_round(self):
        d = tuple((k % 5, ()) for k in range(300))
        self.assertEqual(turned(turning.TURN_ROUND, d), d[::-1])
        self.assertEqual(turned(turning.DROP_ZEROS, d), tuple(tree for tree in d if tree[0]))

    def test_towers_that_are_doubled(self):
        # Each level doubles all that is within it: 2 + 4 + .. + 2048 trees.
        self.assertEqual(plain.size_of(turned(turning.DOUBLE, plain.tower(11))), 4094)
        for deep in (12, 13, 30):
            self.assertRaises(TooMuch, turned, turning.DOUBLE, plain.tower(deep))


class Bounds(unittest.TestCase):
    def test_sizes_of_5000_and_5001(self):
        for extra in (0, 1):
            m = turning.plainly(((node(0),) * extra, lambda a: (node(1, *[node(2)] * 19), behind())))
            if extra:
                self.assertRaises(TooMuch, turned, m, plain.row(250))
                self.assertEqual(plain.size_of(turned(m, plain.row(249))), 4981)
            else:
                self.assertEqual(turned(m, plain.row(250)), ((1, ((2, ()),) * 19),) * 250)
                self.assertRaises(TooMuch, turned, m, plain.row(251))
                self.assertRaises(TooMuch, turned, m, plain.row(300))

    def test_sizes_that_double(self):
        for many in (1, 2, 4095, 4096, 4097, 4999, 5000):
            self.assertEqual(turned(turning.BINARY, binary(many)), plain.row(many))
        for many in (5001, 5002, 8192, 2 ** 20, 2 ** 299):
            self.assertRaises(TooMuch, turned, turning.BINARY, binary(many))
        self.assertRaises(TooMuch, turned, turning.BINARY, plain.row(300, 1))
        # Nothing is doubled, however often.
        self.assertEqual(turned(turning.BINARY, plain.row(300)), ())
        self.assertEqual(turned(turning.BINARY, plain.row(299) + ((0, plain.row(0)),)), ())

    def test_sizes_that_grow_by_the_most_parts(self):
        m = turning.with_template((behind(),) * 300)
        self.assertEqual(turned(m, plain.row(300, 2)), ())
        m = turning.plainly(((node(0),), lambda a: (behind(),) * 59))
        self.assertEqual(turned(m, plain.row(2)), plain.row(59 * 59))
        for many in (3, 4, 300):
            self.assertRaises(TooMuch, turned, m, plain.row(many))

    def test_depths_of_100_and_101(self):
        self.assertEqual(turned(turning.NEST, plain.row(100)), plain.tower(100))
        self.assertRaises(TooMuch, turned, turning.NEST, plain.row(101))
        self.assertRaises(TooMuch, turned, turning.NEST, plain.row(300))
        self.assertEqual(turned(turning.SWAP, plain.row(100)), plain.tower(100))
        self.assertRaises(TooMuch, turned, turning.SWAP, plain.row(101))
        for end in range(4):
            m = turning.plainly((turning.nested(end + 1), lambda a: (node(0, behind()),)))
            self.assertEqual(turning.depth(turned(m, plain.row(100 - end))), 100)
            self.assertRaises(TooMuch, turned, m, plain.row(101 - end))

    def test_depths_of_towers(self):
        m = turning.plainly(((), lambda a: turning.nested(4, (node(a, inner()),)) if a else turning.nested(2, (inner(),))))
        self.assertEqual(turning.depth(turned(m, plain.tower(25, 1))), 100)
        self.assertRaises(TooMuch, turned, m, plain.tower(26, 1))
        tower = plain.tower(24, 1)
        for more, expected in ((3, 99), (4, 100)):
            d = plain_on_top(tower, more)
            self.assertEqual(turning.depth(turned(m, d)), expected)
        self.assertRaises(TooMuch, turned, m, plain_on_top(tower, 5))

    def test_depth_and_size_at_once(self):
        nodes = {1: (node(1, *[node(2)] * 48),), 2: (node(3),)}
        m = turning.plainly(((), lambda a: (node(0, behind()),) if a == 0 else nodes.get(a, ()) + (behind(),)))
        d = plain.row(100, 1) + plain.row(2, 2)
        self.assertEqual(plain.size_of(turned(m, plain.row(98) + d)), 5000)
        self.assertEqual(turning.depth(turned(m, plain.row(98) + d)), 100)
        self.assertRaises(TooMuch, turned, m, plain.row(98) + d + plain.row(1, 2))
        self.assertRaises(TooMuch, turned, m, plain.row(99) + d)
        self.assertRaises(TooMuch, turned, m, plain.row(99) + d[2:])
        self.assertEqual(turned(m, plain.row(98) + d + plain.row(100, 3)), turned(m, plain.row(98) + d))

    def test_what_is_not_used_may_be_beyond_the_bounds(self):
        m = turning.plainly(
            ((), lambda a: (behind(0), node(a))),
            ((node(0),), lambda a: (behind(1), behind(1))),
            ((), lambda a: (node(0, behind(2)),)),
            ((), lambda a: (node(0, node(0, node(0, inner(3)))),) if a else (inner(1),)),
        )
        self.assertEqual(turned(m, plain.row(300)), plain.row(300))
        self.assertEqual(made(m, 1, plain.row(12)), plain.row(4096))
        self.assertRaises(TooMuch, made, m, 1, plain.row(13))
        self.assertRaises(TooMuch, made, m, 1, plain.row(300))
        self.assertEqual(made(m, 2, plain.row(100)), plain.tower(100))
        self.assertRaises(TooMuch, made, m, 2, plain.row(101))
        self.assertEqual(made(m, 3, ((0, plain.row(12)),) + plain.row(200)), plain.row(4096))
        self.assertEqual(turned(m, ((0, plain.row(200)), (1, plain.row(90)))), read("10"))

    def test_random_sizes(self):
        rng = random.Random(112)
        results = []
        for _ in range(60):
            many = rng.choice((4990, 5000, 5010)) + rng.randrange(-12, 13)
            results.append(many > 5000)
            if many > 5000:
                self.assertRaises(TooMuch, turned, turning.BINARY, binary(many))
            else:
                self.assertEqual(turned(turning.BINARY, binary(many)), plain.row(many))
        self.assertIn(True, results)
        self.assertIn(False, results)


def binary(many):
    """A document of which BINARY makes that many trees."""
    return tuple((many >> at & 1, ()) for at in range(many.bit_length()))


def plain_labelled(d, label):
    return tuple((label, plain_labelled(kids, label)) for _, kids in d)


def plain_on_top(d, many):
    for _ in range(many):
        d = ((0, d),)
    return d


if __name__ == "__main__":
    unittest.main()
