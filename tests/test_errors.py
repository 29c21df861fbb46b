"""Promise 1: the errors, their codes, attributes and base classes."""

import copy
import unittest

from ownchute import errors
from tests.drawn import ANY_VALUES, drawn_values, nested, shown

BELT_ERRORS = {
    "WrongCount": "given", "InvalidNumber": "given", "InvalidWord": "given", "InvalidPoint": "given",
    "InvalidField": "name", "InvalidText": "at", "InvalidDeed": "at", "NotNow": "at", "InvalidChute": "given",
    "InvalidOffer": "at", "Unlike": None, "TooMany": "most", "InvalidName": "given", "DuplicateName": "name",
    "Full": "most", "InvalidLimit": "given", "InvalidCommand": "at", "InvalidPage": "at",
}
ALL_ERRORS = {**BELT_ERRORS, "UnknownName": "name", "NothingLeft": None}
WITH_VALUE = [(name, part) for name, part in ALL_ERRORS.items() if part]
WITHOUT_VALUE = [name for name, part in ALL_ERRORS.items() if not part]


class Bases(unittest.TestCase):

    def test_direct_bases(self):
        self.assertEqual(errors.BeltError.__bases__, (ValueError,))
        self.assertEqual(errors.Missing.__bases__, (LookupError,))
        self.assertEqual(errors.NothingLeft.__bases__, (IndexError,))
        self.assertEqual(errors.UnknownName.__bases__, (errors.Missing,))
        for name in BELT_ERRORS:
            with self.subTest(name):
                self.assertEqual(getattr(errors, name).__bases__, (errors.BeltError,))

    def test_no_error_is_below_another_one(self):
        for one in ALL_ERRORS:
            for other in ALL_ERRORS:
                if one != other:
                    self.assertFalse(issubclass(getattr(errors, one), getattr(errors, other)), (one, other))

    def test_defined_in_the_module_under_the_name(self):
        for name in list(ALL_ERRORS) + ["BeltError", "Missing"]:
            self.assertEqual(getattr(errors, name).__module__, "ownchute.errors")
            self.assertEqual(getattr(errors, name).__name__, name)

    def test_caught_by_the_base_classes(self):
        for name in BELT_ERRORS:
            with self.subTest(name), self.assertRaises(errors.BeltError):
                raise getattr(errors, name)(*([1] if BELT_ERRORS[name] else []))
        with self.assertRaises(errors.Missing):
            raise errors.UnknownName("a")
        with self.assertRaises(IndexError):
            raise errors.NothingLeft()


class Values(unittest.TestCase):

    def check(self, error, name, part, value):
        self.assertIs(type(error), getattr(errors, name))
        self.assertEqual(error.code, name)
        self.assertEqual(shown(getattr(error, part)), shown(value))

    def test_by_position_and_by_name(self):
        for at, (name, part) in enumerate(WITH_VALUE):
            make = getattr(errors, name)
            with self.subTest(name):
                for value in list(ANY_VALUES) + drawn_values(at, 60):
                    self.check(make(value), name, part, value)
                    self.check(make(**{part: value}), name, part, value)

    def test_without_a_value(self):
        for name in WITHOUT_VALUE:
            self.assertEqual(getattr(errors, name)().code, name)

    def test_as_many_values_as_parameters(self):
        for name, part in ALL_ERRORS.items():
            make = getattr(errors, name)
            with self.subTest(name):
                self.assertRaises(TypeError, make, *([1, 2] if part else [1]))
                self.assertRaises(TypeError, make, other=1)
                if part:
                    self.assertRaises(TypeError, make)

    def test_each_object_has_its_own_value(self):
        for name, part in WITH_VALUE:
            one, other = getattr(errors, name)(1), getattr(errors, name)("b")
            self.check(one, name, part, 1)
            self.check(other, name, part, "b")

    def test_value_is_kept_when_raised(self):
        for name, part in WITH_VALUE:
            try:
                raise getattr(errors, name)((1, "a"))
            except (errors.BeltError, errors.Missing) as error:
                self.check(error, name, part, (1, "a"))

    def test_lists_are_copied(self):
        for name, part in WITH_VALUE:
            inner, depths = [1, ([2],)], nested(10)
            value = [inner, "a", depths]
            before = copy.deepcopy(value)
            error = getattr(errors, name)(value)
            inner[1][0].append(3)
            inner.append(4)
            value.append(5)
            self.check(error, name, part, before)


if __name__ == "__main__":
    unittest.main()
