"""The interface: each name in its file, each method in its class, each parameter under its name."""

import inspect
import unittest

from heldnotes import badges, books, clamps, comparing, devices, pairs, standings, wishes
from tests.samples import example_book

METHODS = {
    books.Book: {
        "__init__": ["self", "states", "sorts", "first", "rows", "worths"],
        "states": ["self"], "sorts": ["self"], "first": ["self"], "worth": ["self", "state"],
        "effect": ["self", "state", "sort", "age"], "rows": ["self"], "without": ["self", "rows"],
        "__eq__": ["self", "other"],
    },
    devices.Device: {
        "__init__": ["self", "book"], "take": ["self", "key", "sort", "number"], "state": ["self", "key"],
        "held": ["self", "key"], "met": ["self"], "badge": ["self"], "error": ["self"], "letters": ["self"],
        "undo": ["self"], "again": ["self"], "twin": ["self"],
    },
    pairs.Pair: {
        "__init__": ["self", "one", "other"], "send": ["self", "key", "sort", "number"],
        "arrive": ["self", "at", "key", "sort", "number"], "lose": ["self", "key", "sort", "number"],
        "road": ["self"], "device": ["self", "at"], "differ": ["self"], "owed": ["self", "at"],
        "undo": ["self"], "again": ["self"], "would": ["self", "deeds"],
    },
}

FUNCTIONS = {
    standings: {"standing_of": ["book", "row"], "moves": ["book", "standing"], "standings": ["book"],
                "row_to": ["book", "standing"]},
    wishes: {"is_break": ["book", "wish", "thing"], "breaks": ["book", "wish"], "closed": ["book", "wish"],
             "is_closed": ["book", "wish", "thing"], "broken": ["book", "wishes"],
             "least_idle": ["book", "wishes", "rows"]},
    comparing: {"alike": ["one", "other"], "parting": ["one", "other"]},
    badges: {"wrong": ["book"], "worst": ["book", "since"], "seldom": ["book", "bound"], "rates": ["book"],
             "ring": ["book", "high"], "is_ring": ["book", "thing", "rate"], "slope": ["book", "rate"],
             "is_slope": ["book", "thing", "rate"]},
    clamps: {"clamped": ["clamp", "x"], "joined": ["clamps"], "formed": ["clamp"], "shown": ["clamp", "x"],
             "device_clamp": ["book", "row", "floor", "cap"]},
}

# The parameters that may be left out.
DEFAULTS = {"high": True}


class InterfaceTest(unittest.TestCase):

    def test_classes_are_defined_in_their_files(self):
        self.assertEqual(books.Book.__module__, "heldnotes.books")
        self.assertEqual(devices.Device.__module__, "heldnotes.devices")
        self.assertEqual(pairs.Pair.__module__, "heldnotes.pairs")

    def test_methods_are_defined_in_their_classes(self):
        for told, methods in METHODS.items():
            for name, parameters in methods.items():
                with self.subTest(name=name):
                    self.assertIn(name, vars(told))
                    self.assertEqual(list(inspect.signature(vars(told)[name]).parameters), parameters)

    def test_worths_go_by_name_alone_and_are_none_by_default(self):
        worths = inspect.signature(books.Book).parameters["worths"]
        self.assertEqual(worths.kind, inspect.Parameter.KEYWORD_ONLY)
        self.assertIsNone(worths.default)

    def test_all_others_go_by_place_or_by_name(self):
        for told, methods in METHODS.items():
            for name in methods:
                for parameter in inspect.signature(vars(told)[name]).parameters.values():
                    if parameter.name != "worths":
                        self.assertEqual(parameter.kind, inspect.Parameter.POSITIONAL_OR_KEYWORD)
                        self.assertIs(parameter.default, inspect.Parameter.empty)

    def test_functions_are_defined_in_their_files(self):
        for module, functions in FUNCTIONS.items():
            for name, parameters in functions.items():
                with self.subTest(name=name):
                    told = getattr(module, name)
                    self.assertTrue(inspect.isfunction(told))
                    self.assertEqual(told.__module__, module.__name__)
                    self.assertEqual(list(inspect.signature(told).parameters), parameters)
                    for parameter in inspect.signature(told).parameters.values():
                        self.assertEqual(parameter.kind, inspect.Parameter.POSITIONAL_OR_KEYWORD)
                        self.assertIs(parameter.default, DEFAULTS.get(parameter.name, inspect.Parameter.empty))

    def test_functions_go_by_place_and_by_name_and_do_not_change_what_is_passed(self):
        book = example_book()
        first = ("none", "none", (), False)
        wish = ("quiet", ["show"])
        passed = {"book": book, "one": book, "other": example_book(), "row": [["show", 1]], "standing": first,
                  "wish": wish, "thing": [["show", 1]], "wishes": [wish, ["once"]], "rows": [["none", "show", "newer"]],
                  "since": 3, "bound": 2, "high": False, "rate": [1, 2], "clamp": [0, 1, 5], "x": 4,
                  "clamps": [[0, 1, 5], (None, 2, None)], "floor": 0, "cap": 3}
        for module, functions in FUNCTIONS.items():
            for name, parameters in functions.items():
                told = getattr(module, name)
                by_name = {parameter: passed[parameter] for parameter in reversed(parameters)}
                self.assertEqual(told(**by_name), told(*[passed[parameter] for parameter in parameters]))
        self.assertEqual(passed, {
            "book": example_book(), "one": example_book(), "other": example_book(), "row": [["show", 1]],
            "standing": ("none", "none", (), False), "wish": ("quiet", ["show"]), "thing": [["show", 1]],
            "wishes": [("quiet", ["show"]), ["once"]], "rows": [["none", "show", "newer"]],
            "since": 3, "bound": 2, "high": False, "rate": [1, 2], "clamp": [0, 1, 5], "x": 4,
            "clamps": [[0, 1, 5], (None, 2, None)], "floor": 0, "cap": 3})


if __name__ == "__main__":
    unittest.main()
