"""Errors: attributes, codes and which class is under which."""

import unittest

from samples import ANY_VALUES
from stillmeant import errors
from stillmeant.errors import Missing, NothingLeft, StillError

STILL = {
    "InvalidName": "name",
    "DuplicateName": "name",
    "InvalidNumber": "number",
    "InvalidTable": "given",
    "InvalidBases": "given",
    "InvalidDeed": None,
    "InvalidCondition": "given",
    "InvalidLine": "at",
    "InvalidText": "at",
    "InvalidCommand": "at",
    "Refused": "word",
    "Impossible": "at",
    "TooMany": "most",
    "Untimed": None,
    "WrongShape": None,
}
MISSING = {"UnknownBranch": "name", "UnknownChange": "name", "UnknownMoment": None}
PARAMETERS = {**STILL, **MISSING, "NothingLeft": None}


def class_of(name):
    return getattr(errors, name)


class Attributes(unittest.TestCase):
    def test_a_value_by_position(self):
        for name, parameter in PARAMETERS.items():
            if parameter is not None:
                for value in ANY_VALUES:
                    error = class_of(name)(value)
                    self.assertIs(getattr(error, parameter), value)
                    self.assertEqual(error.code, name)

    def test_a_value_by_name(self):
        for name, parameter in PARAMETERS.items():
            if parameter is not None:
                for value in ANY_VALUES:
                    error = class_of(name)(**{parameter: value})
                    self.assertIs(getattr(error, parameter), value)
                    self.assertEqual(error.code, name)

    def test_no_value(self):
        for name, parameter in PARAMETERS.items():
            if parameter is None:
                self.assertEqual(class_of(name)().code, name)
                with self.assertRaises(TypeError):
                    class_of(name)(1)

    def test_a_value_that_is_needed(self):
        for name, parameter in PARAMETERS.items():
            if parameter is not None:
                for values in [(), (1, 2)]:
                    with self.assertRaises(TypeError):
                        class_of(name)(*values)

    def test_attributes_belong_to_each_object(self):
        for name, parameter in PARAMETERS.items():
            expected = {"code": name}
            values = []
            if parameter is not None:
                expected[parameter] = "x"
                values.append("x")
            self.assertEqual(vars(class_of(name)(*values)), expected)

    def test_the_base_classes_have_no_code(self):
        self.assertFalse(hasattr(StillError(), "code"))
        self.assertFalse(hasattr(Missing(), "code"))


class Families(unittest.TestCase):
    def test_direct_bases(self):
        self.assertEqual(StillError.__bases__, (ValueError,))
        self.assertEqual(Missing.__bases__, (LookupError,))
        self.assertEqual(NothingLeft.__bases__, (IndexError,))
        for name in STILL:
            self.assertEqual(class_of(name).__bases__, (StillError,))
        for name in MISSING:
            self.assertEqual(class_of(name).__bases__, (Missing,))

    def test_no_class_is_under_another_one_apart_from_these(self):
        names = ["StillError", "Missing", *PARAMETERS]
        for below in names:
            for above in names:
                expected = below == above
                expected = expected or (above == "StillError" and below in STILL)
                expected = expected or (above == "Missing" and below in MISSING)
                self.assertEqual(issubclass(class_of(below), class_of(above)), expected, (below, above))

    def test_they_are_caught_as_their_bases(self):
        for name, parameter in PARAMETERS.items():
            values = [] if parameter is None else [7]
            base = StillError if name in STILL else Missing if name in MISSING else IndexError
            with self.assertRaises(base) as caught:
                raise class_of(name)(*values)
            self.assertEqual(caught.exception.code, name)

    def test_all_are_defined_in_their_file(self):
        for name in ["StillError", "Missing", *PARAMETERS]:
            self.assertEqual(class_of(name).__module__, "stillmeant.errors")
            self.assertEqual(class_of(name).__name__, name)


if __name__ == "__main__":
    unittest.main()
