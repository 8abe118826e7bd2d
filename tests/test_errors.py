"""The error classes, and the names of the interface."""

import inspect
import unittest

from leafward import comparing, document, errors, fitting, joining, schema, transformation, writing

KINDS = ("BadDocument", "BadSchema", "BadTransformation", "BadText", "TooMuch")

INTERFACE = {
    document: {
        "check_document": ["d"], "size": ["d"], "before": ["d", "e"], "written": ["d"], "read": ["text"],
    },
    schema: {
        "check_schema": ["s"], "allows": ["s", "d"], "set_of": ["s", "d"], "least": ["s"], "counted": ["s", "most"],
    },
    comparing: {"within": ["s", "t"], "takes": ["s", "t", "paper"], "equal": ["s", "t"]},
    joining: {"added": ["s", "t"], "meet": ["s", "t"], "without": ["s", "t"]},
    transformation: {"check_transformation": ["m"], "turned": ["m", "d"], "made": ["m", "state", "d"]},
    fitting: {
        "move": ["t", "d"], "profile": ["s", "m", "t", "d"], "follows": ["s", "m", "t", "label", "kids", "rest"],
        "first_profile": ["s", "m", "t"], "fits": ["s", "m", "t"], "accepts": ["s", "m", "t", "paper"],
        "schema_before": ["m", "t"],
    },
    writing: {"written_schema": ["s"], "read_schema": ["text"]},
}


class Errors(unittest.TestCase):
    def test_the_base(self):
        self.assertEqual(errors.LeafwardError.__bases__, (ValueError,))

    def test_the_kinds_stand_right_below_it(self):
        for kind in KINDS:
            self.assertEqual(getattr(errors, kind).__bases__, (errors.LeafwardError,))

    def test_they_take_no_arguments(self):
        for kind in KINDS + ("LeafwardError",):
            self.assertIsInstance(getattr(errors, kind)(), errors.LeafwardError)

    def test_they_are_defined_there(self):
        for kind in KINDS + ("LeafwardError",):
            self.assertEqual(getattr(errors, kind).__module__, "leafward.errors")


class Interface(unittest.TestCase):
    def test_names_and_arguments(self):
        for module, functions in INTERFACE.items():
            for name, arguments in functions.items():
                function = getattr(module, name)
                self.assertEqual(list(inspect.signature(function).parameters), arguments, name)
                self.assertEqual(function.__module__, module.__name__)


if __name__ == "__main__":
    unittest.main()
