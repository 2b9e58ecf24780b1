"""[29], [30]: the error of one key, and rows that show a wrong badge."""

import unittest

from heldnotes.badges import wrong
from heldnotes.books import Book
from heldnotes.devices import Device
from heldnotes.standings import standing_of
from tests.samples import AGES, example_book, mild_book, random_book, right_book, seeded, whole_book, with_rows
from tests.slow import all_changes, rows_of, shorter_rows, slow_errors


def small_book(chance, most=2):
    """A mild book with few sorts."""
    while True:
        book = mild_book(chance)
        if len(book.sorts()) <= most:
            return book


class ErrorTest(unittest.TestCase):
    """[29]"""

    def test_a_device_of_its_own_has_this_error(self):
        chance = seeded(90)
        for _ in range(200):
            book = mild_book(chance)
            row = [(chance.choice(book.sorts()), chance.randint(0, 5)) for _ in range(20)]
            device = Device(book)
            told = [device.error()]
            for sort, number in row:
                device.take("k", sort, number)
                told.append(device.error())
            self.assertEqual(told, [error for error, _ in slow_errors(book, row)])

    def test_a_step_adds_itself_and_the_worth_ahead_less_that_behind(self):
        rows = {("x", "s", "newer"): ("y", True, False, 4), ("y", "s", "newer"): ("x", True, False, -2),
                ("y", "s", "same"): ("y", True, False, "whole")}
        book = Book(["x", "y"], ["s"], "x", rows, worths={"x": 5, "y": -1})
        device = Device(book)
        self.assertEqual(device.error(), 0)
        device.take("k", "s", 1)
        self.assertEqual(device.error(), 4 + 5 - -1)
        device.take("k", "s", 2)
        self.assertEqual(device.error(), 10 - 2 - 1 - 5)
        device.take("k", "s", 3)
        self.assertEqual(device.error(), 2 + 10)
        device.take("k", "s", 3)
        self.assertEqual(device.error(), 0)


class WrongTest(unittest.TestCase):

    def check_row(self, book, row):
        """A row that is told is wrong behind its last letter, and not ahead."""
        self.assertIs(type(row), list)
        for letter in row:
            self.assertEqual([type(part) for part in (letter,) + letter], [tuple, str, int])
            self.assertLess(abs(letter[1]), 10 ** 9)
        errors = [error for error, _ in slow_errors(book, row)]
        self.assertNotEqual(errors[-1], 0)
        self.assertEqual(set(errors[:-1]), {0})
        standing_of(book, row)

    def test_the_example_is_right(self):
        self.assertIsNone(wrong(example_book()))

    def test_the_example_wrong_at_one_row(self):
        for key, effect in example_book().rows().items():
            for step in (effect[3] + 1, effect[3] - 1, 9):
                book = with_rows(example_book(), {**example_book().rows(), key: effect[:3] + (step,)})
                self.check_row(book, wrong(book))
            book = with_rows(example_book(), {**example_book().rows(), key: effect[:3] + ("whole",)})
            self.assertIsNone(wrong(book))

    def test_the_example_with_other_worths(self):
        rows = example_book().rows()
        self.assertEqual(wrong(with_rows(example_book(), rows, worths={})), [("show", 1)])
        # With a worth of the first state, show ought to count 2, and seen 1.
        book = with_rows(example_book(), rows, worths={"new": 1, "none": -1})
        self.assertEqual(len(wrong(book)), 1)
        self.check_row(book, wrong(book))
        self.assertIsNone(wrong(with_rows(example_book(), rows, worths={"new": 4, "none": 3, "read": 3})))

    def test_right_books(self):
        chance = seeded(91)
        for _ in range(200):
            self.assertIsNone(wrong(right_book(chance)))
        self.assertIsNone(wrong(whole_book(("x", "y"), ("s", "t", "u"))))
        self.assertIsNone(wrong(Book(["x"], ["s"], "x", {})))
        self.assertIsNone(wrong(Book(["x", "y"], ["s"], "y", {}, worths={"x": 3, "y": -9})))

    def test_books_that_are_wrong_at_one_move_alone(self):
        chance = seeded(92)
        lengths = {}
        for _ in range(300):
            book = right_book(chance)
            key = (chance.choice(book.states()), chance.choice(book.sorts()), chance.choice(AGES))
            effect = book.effect(*key)
            if effect[3] == "whole":
                continue
            other = with_rows(book, {**book.rows(), key: effect[:3] + (effect[3] + chance.choice([-1, 1]),)})
            row = wrong(other)
            led = any(change not in (0, None) for _, _, change in all_changes(other))
            self.assertIs(row is None, not led)
            if row is not None:
                lengths[len(row)] = lengths.get(len(row), 0) + 1
                self.check_row(other, row)
                self.assertEqual(wrong(book), None)
        for many in (1, 2, 3):
            self.assertGreater(lengths.get(many, 0), 1, lengths)

    def test_with_the_fewest_letters(self):
        chance = seeded(93)
        lengths = {}
        for _ in range(400):
            book = small_book(chance)
            row = wrong(book)
            most = 5 if row is None and len(book.sorts()) == 1 else 3 if row is None else len(row) - 1
            lengths[0 if row is None else len(row)] = lengths.get(0 if row is None else len(row), 0) + 1
            if row is not None:
                self.check_row(book, row)
            for shorter in shorter_rows(book.sorts(), min(most, 4) + 1):
                self.assertEqual(slow_errors(book, shorter)[-1][0], 0)
        for many in (0, 1, 2, 3):
            self.assertGreater(lengths.get(many, 0), 1, lengths)

    def test_a_row_of_four_letters(self):
        # Only behind three held numbers, and at the last one, there is a step.
        rows = {("a", "s", "newer"): ("b", True, False, 0), ("b", "s", "newer"): ("c", True, False, 0),
                ("c", "s", "newer"): ("d", True, False, 0), ("d", "s", "same"): ("d", False, False, -1)}
        book = Book(["a", "b", "c", "d"], ["s", "t"], "a", rows)
        row = wrong(book)
        self.assertEqual([sort for sort, _ in row], ["s"] * 4)
        self.assertEqual(len({number for _, number in row}), 3)
        self.check_row(book, row)
        # A whole in its place is not wrong, nor is one ahead of it a help.
        self.assertIsNone(wrong(with_rows(book, {**rows, ("d", "s", "same"): ("d", False, False, "whole")})))
        self.check_row(book, wrong(with_rows(book, {**rows, ("c", "s", "newer"): ("d", True, False, "whole")})))

    def test_the_fact_for_books_of_all_sizes(self):
        chance = seeded(94)
        told = {True: 0, False: 0}
        for _ in range(300):
            book = chance.choice([random_book, right_book, mild_book])(chance)
            right = all(change in (0, None) for _, _, change in all_changes(book))
            self.assertIs(wrong(book) is None, right)
            told[right] += 1
        self.assertGreater(min(told.values()), 30)

    def test_all_rows_of_a_right_book_are_right(self):
        chance = seeded(95)
        for _ in range(20):
            book = right_book(chance)
            for row in rows_of(book.sorts()[:2], 3):
                self.assertEqual(slow_errors(book, row)[-1][0], 0)

    def test_it_is_new_each_time(self):
        book = with_rows(example_book(), example_book().rows(), worths={})
        wrong(book).clear()
        self.assertEqual(wrong(book), [("show", 1)])


if __name__ == "__main__":
    unittest.main()
