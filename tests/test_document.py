"""[1.1], [1.2], [1.3], and the texts of documents."""

import itertools
import random
import unittest

from leafward.document import before, check_document, read, size, written
from leafward.errors import BadDocument, BadText
from tests import plain


class Sizes(unittest.TestCase):
    def test_size_counts_trees_within_others(self):
        self.assertEqual(size(()), 0)
        self.assertEqual(size(((3, ()),)), 1)
        self.assertEqual(size(((0, ((1, ()), (2, ()))), (3, ()))), 4)
        self.assertEqual(size(((4, ((4, ((4, ()),)),)),)), 3)

    def test_size_of_all_small_documents(self):
        for many in range(5):
            for d in plain.documents(many, (0, 3)):
                self.assertEqual(size(d), many)

    def test_sizes_at_the_bounds(self):
        self.assertEqual(size(plain.row(300)), 300)
        self.assertEqual(size(plain.tower(30)), 30)
        self.assertEqual(size(plain.tower(30) + plain.row(270)), 300)
        self.assertEqual(size(plain.bushy(300)), 300)


class Order(unittest.TestCase):
    def test_all_pairs_up_to_three(self):
        found = plain.documents_up_to(3, (0, 1))
        self.assertEqual(len(found), 51)
        for i, d in enumerate(found):
            for j, e in enumerate(found):
                expected = (i > j) - (i < j)
                self.assertEqual(plain.plain_before(d, e), expected)
                self.assertEqual(before(d, e), expected, (d, e))

    def test_size_comes_first(self):
        self.assertEqual(before(((4, ()),), plain.row(2)), -1)
        self.assertEqual(before(plain.row(2), ((4, ()),)), 1)
        self.assertEqual(before((), ((0, ()),)), -1)
        self.assertEqual(before((), ()), 0)

    def test_label_before_children_before_rest(self):
        self.assertEqual(before(read("0(4)"), read("10")), -1)
        self.assertEqual(before(read("04"), read("0(0)")), -1)
        self.assertEqual(before(read("0(1)0"), read("0(0)1")), 1)
        self.assertEqual(before(read("0(4)4"), read("0(00)")), -1)
        self.assertEqual(before(read("0(1(0))"), read("0(10)")), 1)
        self.assertEqual(before(read("0(0)4"), read("0(1)0")), -1)

    def test_random_documents(self):
        rng = random.Random(5)
        found = [d for d in plain.documents(4, (0, 1, 2))]
        for _ in range(3000):
            d, e = rng.choice(found), rng.choice(found)
            self.assertEqual(before(d, e), plain.plain_before(d, e), (d, e))

    def test_at_the_bounds(self):
        self.assertEqual(before(plain.row(300), plain.row(299) + ((1, ()),)), -1)
        self.assertEqual(before(plain.row(300), plain.row(300)), 0)
        self.assertEqual(before(plain.row(300), plain.bushy(300)), -1)
        self.assertEqual(before(plain.tower(30), plain.row(30)), 1)
        self.assertEqual(before(plain.tower(30, 1), plain.tower(30)), 1)


class Bounds(unittest.TestCase):
    def test_documents_within_the_bounds(self):
        for d in ((), plain.row(300), plain.tower(30), plain.tower(30) + plain.row(270), plain.bushy(300)):
            self.assertIsNone(check_document(d))
        self.assertIsNone(check_document(((0, plain.row(299)),)))
        self.assertIsNone(check_document(((0, ()), (1, ()), (2, ()), (3, ()), (4, ()))))
        self.assertIsNone(check_document(plain.row(100) + ((1, plain.row(150)),) + plain.row(49)))

    def test_one_tree_too_many(self):
        for d in (plain.row(301), plain.bushy(301), ((0, plain.row(300)),), plain.tower(30) + plain.row(271)):
            self.assertRaises(BadDocument, check_document, d)

    def test_one_level_too_deep(self):
        self.assertRaises(BadDocument, check_document, plain.tower(31))
        self.assertRaises(BadDocument, check_document, plain.row(3) + plain.tower(31) + plain.row(3))

    def test_labels(self):
        for label in (-1, 5, 10 ** 40, True, False, "0", "", None, (), (0,)):
            self.assertRaises(BadDocument, check_document, ((label, ()),))
            self.assertRaises(BadDocument, check_document, ((0, ((label, ()),)),))

    def test_every_function_refuses_in_every_place(self):
        calls = (
            check_document, size, written,
            lambda d: before(d, ()), lambda d: before((), d), lambda d: before(d, d),
        )
        for d, call in itertools.product(plain.BAD_DOCUMENTS, calls):
            self.assertRaises(BadDocument, call, d)

    def test_documents_with_shared_parts_too_many_to_walk(self):
        self.assertRaises(BadDocument, size, plain.doubled(30))
        self.assertEqual(size(plain.doubled(7)), 254)


class Texts(unittest.TestCase):
    def test_the_example(self):
        d = ((0, ((1, ()), (2, ()))), (3, ()))
        self.assertEqual(written(d), "0(12)3")
        self.assertEqual(read("0(12)3"), d)

    def test_the_empty_document(self):
        self.assertEqual(written(()), "")
        self.assertEqual(read(""), ())

    def test_there_and_back(self):
        for d in plain.documents_up_to(4, (0, 2, 4)):
            self.assertEqual(read(written(d)), d)

    def test_at_the_bounds(self):
        for d in (plain.row(300), plain.tower(30), plain.bushy(300), plain.tower(30) + plain.row(270)):
            self.assertEqual(read(written(d)), d)
        self.assertEqual(written(plain.tower(30, 4)), "4(" * 29 + "4" + ")" * 29)

    def test_all_short_texts(self):
        right = {written(d) for d in plain.documents_up_to(6, (0,))}
        for many in range(8):
            for signs in itertools.product("0()", repeat=many):
                text = "".join(signs)
                if text in right:
                    self.assertEqual(written(read(text)), text)
                elif text.count("0") <= 6:
                    self.assertRaises(BadText, read, text)

    def test_other_texts(self):
        bad = [
            "(", ")", "()", "0(", "0)", "0()", "0(1", "0(1))", "(0)", "0(())", "0((1))", "0(1)(2)", "0(1)()", "5", "9",
            "05", "-1", "a", "0a", " ", " 0", "0 ", "0 1", "0( 1)", "\n", "0\n", "\n0", "0\n1", "0,1", "0(1]", "[0]",
            "\t", "0\r", "\0", "0.", "1e3", "0x1", "None", "\u0660", "\u0661(0)", "\u00b2", "\uff10", "\U0001d7d8",
            "\ud800", "0(1)2)", "0(1(2)", ")0(", "0\u200b",
        ]
        for text in bad:
            self.assertRaises(BadText, read, text)

    def test_texts_of_documents_beyond_the_bounds(self):
        self.assertRaises(BadText, read, "0" * 301)
        self.assertRaises(BadText, read, "0(" + "0" * 300 + ")")
        self.assertRaises(BadText, read, "0(" * 30 + "0" + ")" * 30)
        self.assertRaises(BadText, read, "0" + "0(" * 30 + "0" + ")" * 30 + "0")
        self.assertRaises(BadText, read, "0(" * 5000 + "0" + ")" * 5000)
        self.assertRaises(BadText, read, "0" * 100000)
        self.assertRaises(BadText, read, "(" * 100000)

    def test_random_texts(self):
        rng = random.Random(7)
        right = {written(d) for d in plain.documents_up_to(4, (0, 4))}
        for _ in range(20000):
            text = "".join(rng.choice("04()0404() \n5") for _ in range(rng.randrange(9)))
            if text in right:
                self.assertEqual(written(read(text)), text)
            elif sum(sign in "04" for sign in text) <= 4:
                self.assertRaises(BadText, read, text)


if __name__ == "__main__":
    unittest.main()
