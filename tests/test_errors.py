"""The errors of the interface."""

import unittest

from lastopen import errors
from tests.helping import anything

ATTRIBUTES = {
    "BadNames": ["index"], "TooMany": ["n"], "BadSetting": ["index"], "NoSign": ["name"], "BadClause": ["index"],
    "NoClause": ["index"], "Clash": ["name"], "BadCount": ["n"], "BadLevel": ["level"],
    "Blind": ["setting", "literal"], "UnlikeSigns": [], "NoHelper": ["name"], "BadLiteral": ["literal"],
    "BadCode": ["index"], "NotTree": ["index"], "Dead": [], "IsSet": ["name"], "NothingToUndo": [],
    "NotDrawn": ["literal"], "NotDead": [], "BadLine": ["index"],
}


class Errors(unittest.TestCase):

    def test_bases(self):
        self.assertEqual(errors.OpenError.__bases__, (ValueError,))
        for name in ATTRIBUTES:
            self.assertEqual(getattr(errors, name).__bases__, (errors.OpenError,), name)

    def test_they_are_defined_there(self):
        for name in ["OpenError", *ATTRIBUTES]:
            self.assertEqual(getattr(errors, name).__module__, "lastopen.errors")

    def test_by_position(self):
        for name, attributes in ATTRIBUTES.items():
            for thing in anything():
                told = [(thing, attribute) for attribute in attributes]
                error = getattr(errors, name)(*told)
                for attribute, passed in zip(attributes, told):
                    self.assertIs(getattr(error, attribute), passed)

    def test_by_name(self):
        for name, attributes in ATTRIBUTES.items():
            for thing in anything():
                told = {attribute: (thing, attribute) for attribute in attributes}
                error = getattr(errors, name)(**told)
                for attribute in attributes:
                    self.assertIs(getattr(error, attribute), told[attribute])

    def test_any_object_is_kept_as_it_is(self):
        for name, attributes in ATTRIBUTES.items():
            for thing in anything():
                error = getattr(errors, name)(*[thing for attribute in attributes])
                for attribute in attributes:
                    self.assertIs(getattr(error, attribute), thing)

    def test_each_attribute_has_its_own(self):
        error = errors.Blind(("a",), literal=None)
        self.assertEqual((error.setting, error.literal), (("a",), None))
        error = errors.Blind(literal="b", setting=())
        self.assertEqual((error.setting, error.literal), ((), "b"))

    def test_they_have_a_wording_whatever_they_hold(self):
        for name, attributes in ATTRIBUTES.items():
            for thing in anything():
                self.assertTrue(str(getattr(errors, name)(*[thing for attribute in attributes])))

    def test_they_are_raised_and_caught(self):
        for name, attributes in ATTRIBUTES.items():
            for base in (getattr(errors, name), errors.OpenError, ValueError):
                with self.assertRaises(base):
                    raise getattr(errors, name)(*[0 for attribute in attributes])


if __name__ == "__main__":
    unittest.main()
