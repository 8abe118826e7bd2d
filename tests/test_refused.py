"""[1.3], [2.3], [3.4] over the whole program: what is no document, no schema or no transformation is refused."""

import copy
import itertools
import unittest

from leafward import comparing, document, fitting, joining, schema, transformation, writing
from leafward.errors import BadDocument, BadSchema, BadTransformation, LeafwardError
from tests import plain
from tests import plain_turning as turning

EVEN = plain.sums((2, (1, 1, 1, 1, 1)))
PROFILE = ((0,), (), (((0, 0), (1, 1)),))

# Of each kind of argument: a right one, and the error for those that are none.
RIGHT = {
    "d": ((0, ((1, ()),)), (2, ())), "s": EVEN, "m": turning.KEEP, "most": 2, "paper": ("yes", (PROFILE,)), "state": 0,
    "label": 3, "profile": PROFILE,
}
ERRORS = {"d": BadDocument, "s": BadSchema, "m": BadTransformation}
BAD = {"d": plain.BAD_DOCUMENTS, "s": plain.BAD_SCHEMAS, "m": turning.BAD_TRANSFORMATIONS}
# Some that are none, and some that are one beyond a bound.
FEW = {
    "d": (None, "01", ((0, True),), plain.row(301), plain.tower(31)),
    "s": (None, "ab", ((1, ()),), ((True, ()),) * 61, plain.all_rules(60, 2001)),
    "m": (
        None, "ab", turning.with_choices(((False, ()), (-1, ()))), turning.many_states(13), turning.spread_parts(301),
        turning.with_template(turning.nested(11)), turning.looking(9),
    ),
}

FUNCTIONS = {
    document.check_document: ("d",), document.size: ("d",), document.before: ("d", "d"), document.written: ("d",),
    schema.check_schema: ("s",), schema.allows: ("s", "d"), schema.set_of: ("s", "d"), schema.least: ("s",),
    schema.counted: ("s", "most"),
    comparing.within: ("s", "s"), comparing.takes: ("s", "s", "paper"), comparing.equal: ("s", "s"),
    joining.added: ("s", "s"), joining.meet: ("s", "s"), joining.without: ("s", "s"),
    transformation.check_transformation: ("m",), transformation.turned: ("m", "d"),
    transformation.made: ("m", "state", "d"),
    fitting.move: ("s", "d"), fitting.profile: ("s", "m", "s", "d"),
    fitting.follows: ("s", "m", "s", "label", "profile", "profile"), fitting.first_profile: ("s", "m", "s"),
    fitting.fits: ("s", "m", "s"), fitting.accepts: ("s", "m", "s", "paper"), fitting.schema_before: ("m", "s"),
    writing.written_schema: ("s",),
}
AT_THE_BOUNDS = {
    "d": (plain.row(300), plain.tower(30), plain.bushy(300)),
    "s": (((True, ()),) * 60, plain.all_rules(60, 2000)),
    "m": (
        turning.many_states(12), turning.spread_parts(300), turning.with_template(turning.nested(10)), turning.looking(8),
    ),
}


class Refused(unittest.TestCase):
    def test_each_argument_of_each_function(self):
        for function, kinds in FUNCTIONS.items():
            for at, kind in enumerate(kinds):
                for number, wrong in enumerate(BAD.get(kind, ())):
                    args = [RIGHT[other] for other in kinds]
                    args[at] = wrong
                    with self.subTest(function=function.__name__, at=at, number=number):
                        self.assertRaises(ERRORS[kind], function, *args)

    def test_the_first_that_is_none_decides(self):
        for function, kinds in FUNCTIONS.items():
            places = [at for at, kind in enumerate(kinds) if kind in ERRORS]
            for first, second in itertools.combinations(places, 2):
                for left, right in itertools.product(FEW[kinds[first]], FEW[kinds[second]]):
                    args = [RIGHT[other] for other in kinds]
                    args[first], args[second] = left, right
                    with self.subTest(function=function.__name__, first=first, second=second):
                        self.assertRaises(ERRORS[kinds[first]], function, *args)

    def test_all_of_them_none(self):
        for function, kinds in FUNCTIONS.items():
            for number in range(5):
                args = [FEW[kind][number] if kind in FEW else RIGHT[kind] for kind in kinds]
                self.assertRaises(ERRORS[kinds[0]], function, *args)

    def test_papers_that_are_none_do_not_hide_it(self):
        for paper in ((), "yes", None, ("no", plain.row(301)), ("yes", None), plain.doubled(49)):
            for wrong in FEW["s"]:
                self.assertRaises(BadSchema, comparing.takes, wrong, EVEN, paper)
                self.assertRaises(BadSchema, comparing.takes, EVEN, wrong, paper)
                self.assertRaises(BadSchema, fitting.accepts, wrong, turning.KEEP, EVEN, paper)
                self.assertRaises(BadSchema, fitting.accepts, EVEN, turning.KEEP, wrong, paper)
            for wrong in FEW["m"]:
                self.assertRaises(BadTransformation, fitting.accepts, EVEN, wrong, EVEN, paper)

    def test_right_arguments(self):
        for function, kinds in FUNCTIONS.items():
            function(*[RIGHT[kind] for kind in kinds])

    def test_what_is_at_the_bounds_is_not_refused(self):
        for function, kinds in FUNCTIONS.items():
            for at, kind in enumerate(kinds):
                for right in AT_THE_BOUNDS.get(kind, ()):
                    args = [RIGHT[other] for other in kinds]
                    args[at] = right
                    if function == fitting.follows:
                        args[4] = args[5] = fitting.first_profile(*args[:3])
                    self.not_refused(function, args)

    def not_refused(self, function, args):
        try:
            function(*args)
        except LeafwardError as error:
            self.assertNotIsInstance(error, tuple(ERRORS.values()), function)

    def test_what_is_handed_in_stays_as_it_was(self):
        for function, kinds in FUNCTIONS.items():
            args = [RIGHT[kind] for kind in kinds]
            kept = copy.deepcopy(args)
            first = function(*args)
            self.assertEqual(args, kept)
            self.assertEqual(function(*args), first)

    def test_one_kind_for_another(self):
        for function, kinds in FUNCTIONS.items():
            for at, kind in enumerate(kinds):
                for other in ("d", "s", "m"):
                    if kind in ERRORS and other != kind:
                        args = [RIGHT[each] for each in kinds]
                        args[at] = RIGHT[other]
                        self.assertRaises(ERRORS[kind], function, *args)


class TooDeep(unittest.TestCase):
    def test_tuples_nested_100_deep(self):
        plainest = ()
        for _ in range(100):
            plainest = (plainest,)
        tree = plain.tower(50)
        for wrong in (plainest, tree, plain.doubled(50), ((True, plainest),), (plainest,) * 3, ("node", 0, plainest)):
            for function, kinds in FUNCTIONS.items():
                for at, kind in enumerate(kinds):
                    if kind in ERRORS:
                        args = [RIGHT[each] for each in kinds]
                        args[at] = wrong
                        self.assertRaises(ERRORS[kind], function, *args)
            for paper in (wrong, ("yes", wrong), ("no", wrong), ("yes", (wrong,)), ("yes", ((wrong, wrong, wrong),))):
                self.assertIs(comparing.takes(EVEN, EVEN, paper), False)
                self.assertIs(fitting.accepts(EVEN, turning.KEEP, EVEN, paper), False)

    def test_templates_nested_deep(self):
        found = ()
        for _ in range(49):
            found = (("node", 0, found),)
        for m in (turning.with_template(found), turning.with_end(found)):
            self.assertRaises(BadTransformation, transformation.turned, m, ())


if __name__ == "__main__":
    unittest.main()
