"""The error classes: what they are derived from and what they keep."""

import unittest

from cutofftills import errors
from odd import any_values

TOWN_ERRORS = {
    "BadTill": "index", "BadLink": "index", "BadPart": "part", "BadEvent": "index", "BadWhole": "whole",
    "BadWish": "wish", "BadMenu": "index", "BadKind": "kind", "BadTown": "town", "BadNight": "name",
    "BadText": "index", "BadLine": "line", "BadForm": "index", "BadLimits": "limits", "BadMap": "part",
    "BadWalk": "index", "BadCount": "index",
}
OTHER_ERRORS = {
    "UnknownTill": (KeyError, "name"), "UnknownPlace": (KeyError, "place"),
    "TooMany": (OverflowError, "limit"), "NothingToUndo": (RuntimeError, "name"),
}


def attributes():
    """The pairs of an error class and the name of its attribute."""
    pairs = [(name, attribute) for name, attribute in TOWN_ERRORS.items()]
    pairs.extend([(name, attribute) for name, (_, attribute) in OTHER_ERRORS.items()])
    return [(getattr(errors, name), attribute) for name, attribute in pairs]


class Errors(unittest.TestCase):
    def test_the_base_class_is_a_value_error(self):
        self.assertEqual(errors.TownError.__bases__, (ValueError,))

    def test_town_errors_are_derived_from_the_base_class_alone(self):
        for name in TOWN_ERRORS:
            self.assertEqual(getattr(errors, name).__bases__, (errors.TownError,), name)

    def test_other_errors_are_no_town_errors(self):
        for name, (base, _) in OTHER_ERRORS.items():
            self.assertEqual(getattr(errors, name).__bases__, (base,), name)
            self.assertFalse(issubclass(getattr(errors, name), errors.TownError), name)

    def test_all_are_defined_in_the_file(self):
        for error, _ in attributes():
            self.assertEqual(error.__module__, "cutofftills.errors")

    def test_made_by_position_and_by_name_from_any_value(self):
        for error, attribute in attributes():
            for value in any_values():
                self.assertIs(getattr(error(value), attribute), value)
                self.assertIs(getattr(error(**{attribute: value}), attribute), value)

    def test_made_from_exactly_one_argument(self):
        for error, _ in attributes():
            with self.assertRaises(TypeError):
                error()
            with self.assertRaises(TypeError):
                error(1, 2)

    def test_raised_and_caught(self):
        for error, attribute in attributes():
            with self.assertRaises(error) as caught:
                raise error("x")
            self.assertEqual(getattr(caught.exception, attribute), "x")


if __name__ == "__main__":
    unittest.main()
