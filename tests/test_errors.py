"""[4], [50]: the errors."""

import inspect
import unittest

from heldnotes import errors
from tests.samples import any_objects

# Each error with its parameter, None if it has none.
PARAMETERS = {
    "BadStates": "words", "BadSorts": "words", "BadFirst": "word", "BadRow": "row", "BadWorth": "word",
    "BadKey": "key", "BadSort": "word", "BadNumber": "number", "NoLetter": None, "BadLetter": "index",
    "BadStanding": "standing", "BadWish": "wish", "UnlikeSorts": None, "BadSince": "since",
    "BadBound": "bound", "BadRate": "rate", "BadClamp": "index", "BadAt": "at", "NotSent": "letter",
    "Sent": "letter", "NoDeed": None, "BadDeed": "index",
}


class ErrorsTest(unittest.TestCase):

    def test_base_is_a_direct_subclass_of_value_error(self):
        self.assertEqual(errors.HeldError.__bases__, (ValueError,))

    def test_base_is_made_of_a_text(self):
        self.assertEqual(str(errors.HeldError("some text")), "some text")

    def test_each_is_a_direct_subclass(self):
        for name in PARAMETERS:
            self.assertEqual(getattr(errors, name).__bases__, (errors.HeldError,), name)

    def test_no_other_errors(self):
        told = [name for name, thing in vars(errors).items()
                if inspect.isclass(thing) and thing.__module__ == "heldnotes.errors"]
        self.assertEqual(sorted(told), sorted(list(PARAMETERS) + ["HeldError"]))

    def test_parameter_is_attribute_by_place_and_by_name(self):
        for name, parameter in PARAMETERS.items():
            if parameter is None:
                continue
            for at, thing in enumerate(any_objects()):
                with self.subTest(name=name, at=at):
                    by_place = getattr(errors, name)(thing)
                    by_name = getattr(errors, name)(**{parameter: thing})
                    self.assertIs(getattr(by_place, parameter), thing)
                    self.assertIs(getattr(by_name, parameter), thing)
                    self.assertEqual(list(vars(by_place)), [parameter])

    def test_those_without_parameters_take_none(self):
        for name, parameter in PARAMETERS.items():
            if parameter is None:
                made = getattr(errors, name)()
                self.assertEqual(vars(made), {}, name)
                self.assertRaises(TypeError, getattr(errors, name), 1)

    def test_those_with_one_take_just_one(self):
        for name, parameter in PARAMETERS.items():
            if parameter is not None:
                self.assertRaises(TypeError, getattr(errors, name))
                self.assertRaises(TypeError, getattr(errors, name), 1, 2)

    def test_each_has_a_text_whatever_it_holds(self):
        for name, parameter in PARAMETERS.items():
            for at, thing in enumerate(any_objects()):
                with self.subTest(name=name, at=at):
                    made = getattr(errors, name)() if parameter is None else getattr(errors, name)(thing)
                    self.assertTrue(str(made))
                    self.assertTrue(repr(made))

    def test_each_is_raised_and_caught_by_its_bases(self):
        for name, parameter in PARAMETERS.items():
            for base in (errors.HeldError, ValueError):
                with self.assertRaises(base):
                    raise getattr(errors, name)(*([] if parameter is None else [None]))


if __name__ == "__main__":
    unittest.main()
