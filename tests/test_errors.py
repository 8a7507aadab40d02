"""Tests of countededges.errors."""

import unittest

from countededges import errors
from tests.samples import ODD_VALUES, Checks

FIELDS = {
    "BadArgument": "value", "BadProgram": "part", "BadPlace": "value", "BadWay": "value", "BadRun": "value",
    "BadCounter": "value", "BadLot": "value", "NoLot": "reason", "BadNumber": "value", "BadValues": "value",
    "NotTold": "counter", "Rings": "ring", "BadCosts": "value", "BadLevels": "value", "TooMany": "number",
    "BadChange": "value", "BadText": "at", "BadName": "value", "NameTaken": "name", "UnknownName": "name",
    "FailedDeed": "at", "BadCommand": "line",
}


class ErrorTests(Checks):

    def test_twenty_three_errors_stand_directly_under_the_base(self):
        names = [*FIELDS, "NothingToUndo"]
        self.assertEqual(len(names), 23)
        self.assertEqual(errors.CountError.__bases__, (Exception,))
        for name in names:
            self.assertEqual(getattr(errors, name).__bases__, (errors.CountError,), name)
        told = sorted(one.__name__ for one in errors.CountError.__subclasses__())
        self.assertEqual(told, sorted(names))

    def test_no_error_is_one_of_the_others(self):
        names = [*FIELDS, "NothingToUndo"]
        for name in names:
            for other in names:
                is_other = issubclass(getattr(errors, name), getattr(errors, other))
                self.assertEqual(is_other, name == other, (name, other))

    def test_the_field_is_kept_as_it_is(self):
        for name, field in FIELDS.items():
            error = getattr(errors, name)
            for value in [*ODD_VALUES, 7, "word", "a longer text"]:
                for made in (error(value), error(**{field: value})):
                    self.assertEqual(list(vars(made)), [field])
                    self.assertIs(getattr(made, field), value)

    def test_one_error_has_no_field(self):
        self.assertEqual(vars(errors.NothingToUndo()), {})

    def test_each_error_can_be_raised_and_caught_by_the_base(self):
        for name, field in FIELDS.items():
            with self.assertRaises(errors.CountError) as caught:
                raise getattr(errors, name)(field)
            self.assertEqual(getattr(caught.exception, field), field)
        with self.assertRaises(errors.CountError):
            raise errors.NothingToUndo()

    def test_a_field_is_asked_for(self):
        for name in FIELDS:
            with self.assertRaises(TypeError):
                getattr(errors, name)()


if __name__ == "__main__":
    unittest.main()
