"""[40]: what a row of letters makes of a number that is shown between a floor and a cap."""

import unittest

from heldnotes.books import Book
from heldnotes.clamps import clamped, device_clamp, formed, joined
from heldnotes.errors import BadClamp, BadLetter
from tests.samples import AGES, any_objects, example_book, mild_book, not_ints, random_book, seeded, whole_book
from tests.slow import walk

ENDS = [(None, None), (0, None), (None, 5), (0, 5), (2, 2), (-3, 9), (-10 ** 12 + 1, 10 ** 12 - 1)]


def slow_shown(book, row, floor, cap, x):
    """What a device shows behind a row that showed x ahead of it."""
    for state, _, _, step in walk(book, row):
        if step == "whole":
            x = book.worth(state) - book.worth(book.first())
        else:
            x += step
        if floor is not None:
            x = max(x, floor)
        if cap is not None:
            x = min(x, cap)
    return x


class DeviceClampTest(unittest.TestCase):

    def test_the_empty_row(self):
        for floor, cap in ENDS:
            for row in ([], ()):
                self.assertEqual(device_clamp(example_book(), row, floor, cap), (None, 0, None))

    def test_the_example(self):
        book = example_book()
        row = [("show", 1), ("seen", 1), ("show", 2), ("gone", 2)]
        self.assertEqual(device_clamp(book, row, None, None), (None, 0, None))
        self.assertEqual(device_clamp(book, row, 0, None), (0, 0, None))
        self.assertEqual(device_clamp(book, row[:1], 0, None), (0, 1, None))
        self.assertEqual(device_clamp(book, row[:2], 0, None), (0, 0, None))
        self.assertEqual(device_clamp(book, row[:2], 0, 9), (0, 0, 8))
        self.assertEqual(device_clamp(book, row[:1], None, 9), (None, 1, 9))
        self.assertEqual(device_clamp(book, row, 4, 4), (4, 0, 4))

    def test_a_letter_that_steps_by_0_is_clamped_as_well(self):
        book = Book(["x"], ["s"], "x", {})
        self.assertEqual(device_clamp(book, [("s", 1)], 2, 7), (2, 0, 7))
        self.assertEqual(device_clamp(book, [("s", 1)] * 3, None, 7), (None, 0, 7))

    def test_a_whole_makes_it_what_is_right_clamped(self):
        rows = {("x", "s", "newer"): ("y", True, False, "whole"), ("y", "s", "newer"): ("x", True, False, 3)}
        book = Book(["x", "y"], ["s"], "x", rows, worths={"x": -2, "y": 5})
        for (floor, cap), told in zip(ENDS, (7, 7, 5, 5, 2, 7, 7)):
            self.assertEqual(device_clamp(book, [("s", 1)], floor, cap), (told, 0, told))
        # Behind a whole all is the same whatever was shown ahead of it.
        self.assertEqual(device_clamp(book, [("s", 1), ("s", 2)], None, None), (10, 0, 10))
        self.assertEqual(device_clamp(book, [("s", 1), ("s", 2)], 0, 8), (8, 0, 8))
        self.assertEqual(device_clamp(book, [("s", 1), ("s", 2), ("s", 2)], 0, 5), (5, 0, 5))

    def test_against_a_device_that_shows(self):
        chance = seeded(150)
        wholes = {True: 0, False: 0}
        for _ in range(400):
            book = chance.choice([random_book, mild_book])(chance)
            row = [(chance.choice(book.sorts()), chance.randint(0, 4)) for _ in range(chance.randint(0, 12))]
            floor, cap = chance.choice(ENDS)
            told = device_clamp(book, chance.choice([row, tuple(row), [list(letter) for letter in row]]), floor, cap)
            wholes[any(step == "whole" for _, _, _, step in walk(book, row))] += 1
            self.assertEqual(told, formed(told))
            self.assertEqual([type(told), type(told[1])], [tuple, int])
            for x in list(range(-30, 31, 3)) + [-10 ** 12, 10 ** 12]:
                self.assertEqual(clamped(told, x), slow_shown(book, row, floor, cap, x))
        self.assertGreater(min(wholes.values()), 50)

    def test_forty_letters(self):
        rows = {("x", "s", age): ("x", True, False, 9) for age in AGES}
        book = Book(["x"], ["s"], "x", rows)
        row = [("s", number) for number in range(40)]
        self.assertEqual(device_clamp(book, row, None, None), (None, 360, None))
        self.assertEqual(device_clamp(book, row, 0, None), (351, 360, None))
        self.assertEqual(device_clamp(book, row, 0, 100), (100, 0, 100))

    def test_numbers_count_by_order_alone(self):
        chance = seeded(151)
        for _ in range(100):
            book = mild_book(chance)
            row = [(chance.choice(book.sorts()), chance.randint(0, 4)) for _ in range(chance.randint(0, 9))]
            numbers = sorted(chance.sample(range(-10 ** 12 + 1, 10 ** 12), 5))
            other = [(sort, numbers[number]) for sort, number in row]
            for floor, cap in ENDS:
                self.assertEqual(device_clamp(book, row, floor, cap), device_clamp(book, other, floor, cap))

    def test_a_row_in_parts_within_one_state(self):
        book = Book(["x"], ["s", "t"], "x", {("x", "s", "newer"): ("x", False, False, 4),
                                             ("x", "t", "newer"): ("x", False, False, -3)})
        row = [("s", 1), ("t", 2), ("s", 3), ("s", 1), ("t", 1)]
        for floor, cap in ENDS:
            parts = [device_clamp(book, [letter], floor, cap) for letter in row]
            self.assertEqual(joined(parts), device_clamp(book, row, floor, cap))

    def test_what_is_no_row(self):
        book = example_book()
        for floor, cap in ((None, None), (0, 1), (1, 0), (True, "a")):
            for at, thing in enumerate(any_objects()):
                if isinstance(thing, (list, tuple)) and not thing:
                    continue
                with self.subTest(at=at), self.assertRaises(BadLetter) as caught:
                    device_clamp(book, thing, floor, cap)
                self.assertEqual(caught.exception.index, 0)
            for at, thing in enumerate(any_objects() + [("show", True), ("shows", 1), ("show",), ("show", 1, 1)]):
                with self.subTest(at=at), self.assertRaises(BadLetter) as caught:
                    device_clamp(book, [("show", 1), ["gone", 2], thing, None], floor, cap)
                self.assertEqual(caught.exception.index, 2)

    def test_floor_and_cap_that_are_none(self):
        bad = [(1, 0), (10 ** 12, -10 ** 12), (True, None), (None, False), (True, True)]
        for thing in not_ints():
            if thing is not None:
                bad += [(thing, None), (None, thing), (thing, 3), (3, thing), (thing, thing)]
        for at, (floor, cap) in enumerate(bad):
            for book, row in ((example_book(), []), (example_book(), [("show", 1)]), (whole_book(), [("s", 1)])):
                with self.subTest(at=at), self.assertRaises(BadClamp) as caught:
                    device_clamp(book, row, floor, cap)
                self.assertEqual(caught.exception.index, 0)

    def test_what_is_passed_stays(self):
        row = [["show", 1], ("seen", 1)]
        device_clamp(example_book(), row, 0, 1)
        self.assertEqual(row, [["show", 1], ("seen", 1)])


if __name__ == "__main__":
    unittest.main()
