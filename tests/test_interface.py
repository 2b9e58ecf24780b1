"""The interface: each name in its file, each method in its class, each parameter under its name."""

import inspect
import unittest

from heldnotes import books, devices

METHODS = {
    books.Book: {
        "__init__": ["self", "states", "sorts", "first", "rows", "worths"],
        "states": ["self"], "sorts": ["self"], "first": ["self"], "worth": ["self", "state"],
        "effect": ["self", "state", "sort", "age"], "rows": ["self"], "without": ["self", "rows"],
        "__eq__": ["self", "other"],
    },
    devices.Device: {
        "__init__": ["self", "book"], "take": ["self", "key", "sort", "number"], "state": ["self", "key"],
        "held": ["self", "key"], "met": ["self"], "badge": ["self"], "error": ["self"], "letters": ["self"],
        "undo": ["self"], "again": ["self"], "twin": ["self"],
    },
}


class InterfaceTest(unittest.TestCase):

    def test_classes_are_defined_in_their_files(self):
        self.assertEqual(books.Book.__module__, "heldnotes.books")
        self.assertEqual(devices.Device.__module__, "heldnotes.devices")

    def test_methods_are_defined_in_their_classes(self):
        for told, methods in METHODS.items():
            for name, parameters in methods.items():
                with self.subTest(name=name):
                    self.assertIn(name, vars(told))
                    self.assertEqual(list(inspect.signature(vars(told)[name]).parameters), parameters)

    def test_worths_go_by_name_alone_and_are_none_by_default(self):
        worths = inspect.signature(books.Book).parameters["worths"]
        self.assertEqual(worths.kind, inspect.Parameter.KEYWORD_ONLY)
        self.assertIsNone(worths.default)

    def test_all_others_go_by_place_or_by_name(self):
        for told, methods in METHODS.items():
            for name in methods:
                for parameter in inspect.signature(vars(told)[name]).parameters.values():
                    if parameter.name != "worths":
                        self.assertEqual(parameter.kind, inspect.Parameter.POSITIONAL_OR_KEYWORD)
                        self.assertIs(parameter.default, inspect.Parameter.empty)


if __name__ == "__main__":
    unittest.main()
