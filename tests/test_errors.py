"""[5]: the errors and their fields."""

import unittest

from gatequarters import errors
from gatequarters.errors import GateError
from tests.support import odd_objects

WITH_VALUE = [
    "InvalidStreets", "InvalidGates", "InvalidQuarter", "InvalidQuarters", "InvalidTown", "InvalidPlace",
    "InvalidName", "InvalidChange", "InvalidChanges", "InvalidCount", "InvalidMeasure", "InvalidFlow",
    "InvalidCut", "InvalidTable", "InvalidLot", "InvalidSupply", "InvalidPlan", "InvalidDealing",
    "InvalidParting", "InvalidCity", "InvalidSpot", "InvalidPromise", "InvalidScript", "InvalidText",
    "InvalidLog", "Unlike", "Refused",
]
WITHOUT_VALUE = ["NothingToUndo", "NothingToRedo"]


class Errors(unittest.TestCase):
    def test_gate_error_is_a_value_error(self):
        self.assertEqual(GateError.__bases__, (ValueError,))

    def test_all_are_derived_from_gate_error_and_none_from_another_one(self):
        classes = [getattr(errors, name) for name in WITH_VALUE + WITHOUT_VALUE]
        for one in classes:
            self.assertTrue(issubclass(one, GateError), one)
            for other in classes:
                self.assertEqual(issubclass(one, other), one is other)

    def test_each_is_defined_in_the_module(self):
        for name in ["GateError"] + WITH_VALUE + WITHOUT_VALUE:
            self.assertEqual(getattr(errors, name).__module__, "gatequarters.errors")

    def test_a_field_takes_any_object_by_position_and_by_name(self):
        for name in WITH_VALUE:
            made = getattr(errors, name)
            for thing in odd_objects():
                self.assertIs(made(thing).value, thing)
                self.assertIs(made(value=thing).value, thing)

    def test_a_field_is_none_without_an_object(self):
        for name in WITH_VALUE:
            self.assertIsNone(getattr(errors, name)().value)

    def test_the_others_are_made_without_arguments(self):
        for name in ["GateError"] + WITHOUT_VALUE:
            self.assertFalse(hasattr(getattr(errors, name)(), "value"))

    def test_each_can_be_raised_and_caught_as_gate_error(self):
        for name in WITH_VALUE + WITHOUT_VALUE:
            with self.assertRaises(GateError) as caught:
                raise getattr(errors, name)()
            self.assertIs(caught.exception.__class__, getattr(errors, name))


if __name__ == "__main__":
    unittest.main()
