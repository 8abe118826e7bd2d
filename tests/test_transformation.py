"""[3.1], [3.2], [3.4]: what transformations are."""

import random
import unittest

from leafward.errors import BadTransformation
from leafward.transformation import check_transformation
from tests import plain
from tests import plain_turning as turning
from tests.plain_turning import behind, inner, node


class Form(unittest.TestCase):
    def right(self, m):
        self.assertIsNone(check_transformation(m))

    def wrong(self, m):
        self.assertRaises(BadTransformation, check_transformation, m)

    def test_transformations(self):
        for number, m in enumerate(turning.SHARED):
            with self.subTest(number=number):
                self.right(m)

    def test_random_transformations(self):
        rng = random.Random(101)
        for _ in range(100):
            self.right(turning.random_transformation(rng, rng.randrange(1, 5), rng.randrange(1, 4)))

    def test_the_plainest_one(self):
        self.right((((False, ()),), (((), (((-1, ()),),) * 5),)))

    def test_other_forms(self):
        for number, m in enumerate(turning.BAD_FORMS):
            with self.subTest(number=number):
                self.wrong(m)

    def test_looks_that_are_no_schema(self):
        for number, looks in enumerate(plain.BAD_SCHEMAS):
            with self.subTest(number=number):
                self.wrong((looks, (turning.RIGHT_STATE,)))

    def test_choices(self):
        two = ((True, ()),) * 2
        self.right(turning.with_choices(((-1, ()),)))
        self.right(turning.with_choices(((0, ()), (-1, ()))))
        self.right(turning.with_choices(((0, ()), (0, (inner(),)), (0, ()), (-1, (behind(),)))))
        self.right(turning.with_choices(((1, ()), (0, ()), (-1, ())), two))
        self.right(turning.with_choices(((0, ()),) * 500 + ((-1, ()),)))
        self.wrong(turning.with_choices(((2, ()), (0, ()), (-1, ())), two))
        for number, choices in enumerate(turning.BAD_CHOICES):
            with self.subTest(number=number):
                self.wrong(turning.with_choices(choices))

    def test_choices_for_each_label(self):
        for label in range(5):
            for wrong in turning.BAD_CHOICES:
                rows = tuple(wrong if a == label else turning.ROW for a in range(5))
                self.wrong((turning.ONE_LOOK, (((), rows),)))
                self.wrong((turning.ONE_LOOK, (turning.RIGHT_STATE, ((), rows))))

    def test_templates(self):
        self.right(turning.with_template((inner(), behind(), node(4, inner(), node(0)), behind())))
        self.right(turning.with_end((node(4, node(0)), node(1))))
        for number, template in enumerate(turning.BAD_TEMPLATES):
            with self.subTest(number=number):
                self.wrong(turning.with_template(template))
                self.wrong(turning.with_template((node(0, behind()), ("node", 1, template))))
                self.wrong(turning.with_end(template))
                self.wrong(turning.choosing(
                    turning.ONE_LOOK, ((), lambda a, wrong=template: ((0, wrong), (-1, ()))),
                ))

    def test_ends(self):
        for number, end in enumerate(turning.BAD_ENDS):
            with self.subTest(number=number):
                self.right(turning.with_template(end))
                self.wrong(turning.with_end(end))
                self.wrong(turning.plainly(((), lambda a: ()), (end, lambda a: ())))

    def test_states_that_parts_name(self):
        for many in (1, 2, 12):
            for word in ("in", "next"):
                for state in (0, many - 1):
                    self.right(turning.plainly(*[((), lambda a, at=state: ((word, at),))] * many))
                for state in (many, many + 1, -1, 60):
                    self.wrong(turning.plainly(*[((), lambda a, at=state: ((word, at),))] * many))

    def test_truth_values_are_no_numbers(self):
        self.right(turning.plainly(*[((), lambda a: (inner(1), behind(1), node(1)))] * 2))
        for wrong in ((inner(True),), (behind(True),), (node(True),), (node(False),), (inner(False),)):
            self.wrong(turning.plainly(*[((), lambda a, parts=wrong: parts)] * 2))
            self.wrong(turning.plainly(*[((), lambda a, parts=wrong: (node(0, *parts),))] * 2))
        two = ((True, ()),) * 2
        for look in (True, False):
            self.wrong(turning.with_choices(((look, ()), (-1, ())), two))


class Bounds(unittest.TestCase):
    def right(self, m):
        self.assertIsNone(check_transformation(m))

    def wrong(self, m):
        self.assertRaises(BadTransformation, check_transformation, m)

    def test_states(self):
        self.right(turning.many_states(11))
        self.right(turning.many_states(12))
        self.wrong(turning.many_states(13))

    def test_parts(self):
        for make, step in ((turning.with_template, behind()), (turning.with_end, node(2))):
            self.right(make((step,) * 300))
            self.wrong(make((step,) * 301))
            self.right(make((node(0, *[step] * 299),)))
            self.wrong(make((node(0, *[step] * 300),)))
            self.right(make((node(0, node(1, *[step] * 100)), node(0, *[step] * 197))))
            self.wrong(make((node(0, node(1, *[step] * 100)), node(0, *[step] * 198))))
        self.right(turning.spread_parts(300))
        self.wrong(turning.spread_parts(301))

    def test_parts_of_all_choices_and_labels(self):
        for many in (300, 301):
            shares = [many // 10 + (at < many % 10) for at in range(10)]
            m = turning.choosing(((True, ()),), ((), lambda a: (
                (0, (inner(),) * shares[2 * a]), (-1, (behind(),) * shares[2 * a + 1]),
            )))
            (self.right if many == 300 else self.wrong)(m)
            m = turning.plainly(*[((node(0),) * 30, lambda a: ())] * 10, ((node(0),) * (many - 300), lambda a: ()))
            (self.right if many == 300 else self.wrong)(m)

    def test_levels(self):
        for make in (turning.with_template, turning.with_end):
            self.right(make(turning.nested(1)))
            self.right(make(turning.nested(10)))
            self.right(make((node(0),) + turning.nested(10) + (node(0),)))
            self.right(make(turning.nested(9, (node(0),))))
            self.wrong(make(turning.nested(11)))
            self.wrong(make(turning.nested(10, (node(0),))))
            self.wrong(make((node(0),) + turning.nested(11) + (node(0),)))
        self.right(turning.with_template(turning.nested(10, (inner(), behind()))))
        self.wrong(turning.with_template(turning.nested(11, (inner(), behind()))))

    def test_looks(self):
        self.right(turning.looking(8))
        self.wrong(turning.looking(9))
        self.right((plain.all_rules(8, 2000), (turning.RIGHT_STATE,)))
        self.wrong((plain.all_rules(8, 2001), (turning.RIGHT_STATE,)))

    def test_all_bounds_at_once(self):
        shares = [25] * 12
        m = turning.choosing(plain.all_rules(8, 2000), *[
            (turning.nested(10), lambda a, share=share: ((7, turning.nested(10)), (-1, ())) if a == 0 else (
                ((7, (behind(11),) * (share - 18)), (-1, ())) if a == 1 else ((-1, ()),)
            )) for share in shares
        ])
        self.right(m)

    def test_templates_that_share_their_parts(self):
        # Such a tuple is small, but stands for more parts than can be walked.
        for levels in (7, 8, 30, 80):
            self.wrong(turning.with_template(turning.sharing(levels)))
            self.wrong(turning.with_end(turning.sharing(levels)))
        self.right(turning.with_template(turning.sharing(6)))


if __name__ == "__main__":
    unittest.main()
