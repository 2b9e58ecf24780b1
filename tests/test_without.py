"""[24]: books with rows made idle."""

import itertools
import unittest

from heldnotes.books import Book
from heldnotes.errors import BadRow
from tests.samples import (AGES, any_objects, deep, example_book, example_rows, random_book, same_object,
                           seeded)

SHOW = ("none", "show", "newer")
SEEN = ("none", "seen", "newer")


class WithoutTest(unittest.TestCase):

    def setUp(self):
        self.book = example_book()

    def refused(self, row, rows):
        with self.assertRaises(BadRow) as caught:
            self.book.without(rows)
        self.assertTrue(same_object(caught.exception.row, row))
        self.assertEqual(self.book, example_book())

    def test_the_effects_are_idle(self):
        left = self.book.without([SEEN])
        self.assertEqual(left.effect(*SEEN), ("none", False, False, 0))
        rows = example_rows()
        del rows[SEEN]
        self.assertEqual(left.rows(), rows)
        self.assertEqual(list(left.rows()), sorted(rows))

    def test_all_else_is_the_same(self):
        book = Book(["read", "none", "new"], ["show", "gone", "seen"], "new", example_rows(),
                    worths={"new": 1, "none": -3})
        left = book.without([SHOW, SEEN])
        self.assertEqual(left.states(), ["read", "none", "new"])
        self.assertEqual(left.sorts(), ["show", "gone", "seen"])
        self.assertEqual(left.first(), "new")
        self.assertEqual([left.worth(state) for state in ("read", "none", "new")], [0, -3, 1])
        self.assertEqual(len(left.rows()), len(example_rows()) - 2)

    def test_the_old_book_stays_as_it_was(self):
        self.book.without([SHOW])
        self.assertEqual(self.book, example_book())
        self.assertEqual(self.book.rows(), example_rows())
        self.assertEqual(self.book.effect(*SHOW), ("new", True, True, 1))

    def test_no_rows_make_an_equal_new_book(self):
        for rows in ([], ()):
            left = self.book.without(rows)
            self.assertEqual(left, self.book)
            self.assertIsNot(left, self.book)

    def test_all_rows(self):
        left = self.book.without(list(self.book.rows()))
        self.assertEqual(left.rows(), {})
        self.assertEqual(left, Book(["none", "new", "read"], ["show", "seen", "gone"], "none", {},
                                    worths={"new": 1}))

    def test_lists_and_tuples_of_lists_and_tuples(self):
        expected = self.book.without([SHOW, SEEN])
        for rows in ([list(SHOW), SEEN], (SHOW, list(SEEN)), (list(SEEN), list(SHOW)), (SEEN, SHOW)):
            self.assertEqual(self.book.without(rows), expected)

    def test_what_is_passed_is_not_changed_and_may_change_later(self):
        rows = [list(SHOW), SEEN]
        left = self.book.without(rows)
        self.assertEqual(rows, [list(SHOW), SEEN])
        rows[0][0] = "read"
        rows.clear()
        self.assertEqual(left, self.book.without([SHOW, SEEN]))

    def test_things_that_are_no_lists(self):
        for at, thing in enumerate(any_objects() + [self.book.rows(), {SHOW: True}, "none"]):
            if isinstance(thing, (list, tuple)):
                continue
            with self.subTest(at=at):
                self.refused(None, thing)

    def test_things_that_are_no_keys(self):
        wrong = any_objects() + [("none", "show"), ["none", "show", "newer", "newer"], ("none", "show", "older"),
                                 ("show", "none", "newer"), ("gone", "show", "newer"), ["none", "new", "newer"],
                                 (["none"], "show", "newer"), ("none", ["show"], "newer"),
                                 ["none", "show", ["newer"]], [SHOW], (SHOW,), [[], (), {}], deep(9)]
        for at, thing in enumerate(wrong):
            if thing in (SHOW, list(SHOW)):
                continue
            for rows in ([thing], (thing,), [SHOW, thing], [list(SEEN), thing, 7, SHOW, SHOW]):
                with self.subTest(at=at):
                    self.refused(thing, rows)

    def test_keys_that_are_idle(self):
        for state in self.book.states():
            for sort in self.book.sorts():
                for age in AGES:
                    key = (state, sort, age)
                    if key not in example_rows():
                        self.refused(key, [key])
                        self.refused(list(key), [SHOW, list(key)])
        told = {SHOW: ("none", False, False, 0)}
        with self.assertRaises(BadRow):
            Book(["none"], ["show"], "none", told).without([SHOW])

    def test_keys_that_are_idle_already(self):
        left = self.book.without([SHOW])
        with self.assertRaises(BadRow) as caught:
            left.without([SEEN, SHOW])
        self.assertEqual(caught.exception.row, SHOW)

    def test_keys_that_stand_twice(self):
        self.refused(SHOW, [SHOW, SHOW])
        self.refused(list(SHOW), [SHOW, list(SHOW)])
        self.refused(SHOW, (list(SHOW), SEEN, SHOW))
        self.refused(SEEN, [SHOW, SEEN, SEEN, SHOW])

    def test_the_first_thing_is_told(self):
        self.refused(7, [SHOW, 7, SHOW, 8])
        self.refused(SHOW, [SHOW, SHOW, 7])
        self.refused(None, [SHOW, None, 7])
        self.refused(("new", "show", "elder"), [("new", "show", "elder"), SHOW, SHOW])

    def test_choices_of_books_by_chance(self):
        chance = seeded(2)
        for _ in range(40):
            book = random_book(chance)
            keys = list(book.rows())[:5]
            worths = {state: book.worth(state) for state in book.states()}
            for many in range(len(keys) + 1):
                for choice in itertools.permutations(keys, many):
                    rows = book.rows()
                    for key in choice:
                        del rows[key]
                    left = book.without(list(choice))
                    self.assertEqual(left, Book(book.states(), book.sorts(), book.first(), rows, worths=worths))


if __name__ == "__main__":
    unittest.main()
