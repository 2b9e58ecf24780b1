"""[27], [28], [44]: books alike, and rows at which two books part."""

import unittest

from heldnotes.books import Book
from heldnotes.comparing import alike, parting
from heldnotes.devices import Device
from heldnotes.errors import UnlikeSorts
from heldnotes.standings import standing_of, standings
from tests.samples import AGES, example_book, example_rows, random_book, seeded, with_rows
from tests.slow import rows_of, shorter_rows, slow_part


def renamed(book, names, order=lambda words: words):
    """A book with other words for its states."""
    rows = {(names[state], sort, age): (names[effect[0]],) + effect[1:]
            for (state, sort, age), effect in book.rows().items()}
    return Book(order([names[state] for state in book.states()]), order(book.sorts()), names[book.first()], rows,
                worths={names[state]: book.worth(state) for state in book.states()})


def changed(chance, book):
    """A book in which one effect is another one."""
    state, sort, age = (chance.choice(words) for words in (book.states(), book.sorts(), AGES))
    effect = list(book.effect(state, sort, age))
    at = chance.randint(0, 3)
    effect[at] = [chance.choice(book.states()), not effect[1], not effect[2], chance.choice([0, 1, "whole"])][at]
    return with_rows(book, {**book.rows(), (state, sort, age): tuple(effect)})


def doubled(chance, book):
    """A book with one more state that does what another one does, and is next in some effects in place of it."""
    twin = chance.choice(book.states())
    rows = {key: effect for key, effect in book.rows().items()}
    for (state, sort, age), effect in book.rows().items():
        if state == twin:
            rows[("twin", sort, age)] = effect
    for sort in book.sorts():
        for age in AGES:
            # An idle effect of the twin is one that stays in it.
            rows.setdefault(("twin", sort, age), ("twin", False, False, 0))
    for key, effect in rows.items():
        if effect[0] == twin and chance.random() < 0.5:
            rows[key] = ("twin",) + effect[1:]
    worths = {state: book.worth(state) for state in book.states()}
    return with_rows(book, rows, states=book.states() + ["twin"], worths={**worths, "twin": book.worth(twin)})


def few_states(chance):
    """A book with at most three states."""
    while True:
        book = random_book(chance)
        if len(book.states()) < 4:
            return book


class PartingTest(unittest.TestCase):

    def book(self, rows, **more):
        return Book(["x", "y"], ["s", "t"], "x", rows, **more)

    def test_each_part_of_a_letter_counts(self):
        key = ("x", "s", "newer")
        one = self.book({key: ("x", True, True, 1)}, worths={"x": 2, "y": 3})
        for effect in (("x", True, False, 1), ("x", True, True, 0), ("x", True, True, "whole"), ("y", True, True, 1)):
            other = self.book({key: effect}, worths={"x": 2, "y": 3})
            self.assertIs(alike(one, other), False)
            self.assertIs(alike(other, one), False)
            self.assertEqual(parting(one, other), [("s", 1)])
            self.assertEqual([type(part) for part in parting(one, other)[0]], [str, int])

    def test_a_whole_is_no_step_of_integers(self):
        for step in range(-9, 10):
            self.assertFalse(alike(self.book({("x", "s", "newer"): ("x", True, False, "whole")}),
                                   self.book({("x", "s", "newer"): ("x", True, False, step)})))

    def test_the_worth_less_that_of_the_first_state_counts(self):
        rows = {("x", "s", "newer"): ("y", True, True, 1)}
        one = self.book(rows, worths={"x": 1, "y": 4})
        self.assertIs(alike(one, self.book(rows, worths={"x": -5, "y": -2})), True)
        self.assertIs(alike(one, self.book(rows, worths={"y": 3})), True)
        self.assertIs(alike(one, self.book(rows, worths={"y": 4})), False)
        self.assertEqual(parting(one, self.book(rows, worths={"y": 4})), [("s", 1)])

    def test_the_empty_row_parts_none(self):
        self.assertIs(alike(self.book({}, worths={"x": 1, "y": 1}), self.book({}, worths={"x": 7})), True)
        self.assertIsNone(parting(self.book({}), Book(["z"], ["t", "s"], "z", {})))

    def test_held_numbers_count_that_show_later(self):
        one = self.book({("x", "s", "newer"): ("x", True, False, 0), ("x", "t", "same"): ("x", False, True, 0)})
        other = self.book({("x", "t", "same"): ("x", False, True, 0)})
        row = parting(one, other)
        self.assertEqual(([sort for sort, _ in row], row[0][1] == row[1][1]), (["s", "t"], True))

    def test_a_number_between_the_two_held_ones(self):
        # One holds the newest, the other the number of its first letter; t rings if it is newer.
        rows = {("x", "s", "newer"): ("y", True, False, 0),
                ("x", "t", "newer"): ("x", False, True, 0), ("y", "t", "newer"): ("y", False, True, 0)}
        one = self.book({**rows, ("y", "s", "newer"): ("y", True, False, 0)})
        other = self.book(rows)
        for row in (parting(one, other), parting(other, one)):
            self.assertEqual([sort for sort, _ in row], ["s", "s", "t"])
            self.assertLess(row[0][1], row[2][1])
            self.assertLessEqual(row[2][1], row[1][1])
            self.assertTrue(slow_part(one, other, row))

    def test_a_number_strictly_between_the_two_held_ones(self):
        # Behind s and a newer s one holds the second number, the other the first; at t one steps if it is
        # not elder than the second, the other if it is newer than the first.
        one = Book(["x", "y", "z"], ["s", "t"], "x", {
            ("x", "s", "newer"): ("y", True, False, 0), ("y", "s", "newer"): ("z", True, False, 0),
            ("z", "t", "newer"): ("z", False, False, 1), ("z", "t", "same"): ("z", False, False, 1)})
        other = Book(["x", "y", "z"], ["s", "t"], "x", {
            ("x", "s", "newer"): ("y", True, False, 0), ("y", "s", "newer"): ("z", False, False, 0),
            ("z", "t", "newer"): ("z", False, False, 1)})
        for row in (parting(one, other), parting(other, one)):
            self.assertTrue(slow_part(one, other, row))
            self.assertEqual([sort for sort, _ in row], ["s", "s", "t"])
            self.assertLess(row[0][1], row[2][1])
            self.assertLess(row[2][1], row[1][1])

    def test_a_number_below_the_two_held_ones(self):
        # As above, but only the other one steps, if the number is elder than the first.
        one = Book(["x", "y", "z"], ["s", "t"], "x", {
            ("x", "s", "newer"): ("y", True, False, 0), ("y", "s", "newer"): ("z", True, False, 0)})
        other = Book(["x", "y", "z"], ["s", "t"], "x", {
            ("x", "s", "newer"): ("y", True, False, 0), ("y", "s", "newer"): ("z", False, False, 0),
            ("z", "t", "elder"): ("z", False, False, 1)})
        for row in (parting(one, other), parting(other, one)):
            self.assertTrue(slow_part(one, other, row))
            self.assertEqual([sort for sort, _ in row], ["s", "s", "t"])
            self.assertLess(row[2][1], row[0][1])
            self.assertLess(row[0][1], row[1][1])

    def test_rows_part_and_no_shorter_row_does(self):
        chance = seeded(70)
        lengths = {}
        for _ in range(400):
            one = random_book(chance)
            other = changed(chance, one)
            row = parting(one, other)
            self.assertIs(alike(one, other), row is None)
            if row is None:
                lengths[0] = lengths.get(0, 0) + 1
                self.assertFalse(any(slow_part(one, other, tried) for many in (1, 2, 3)
                                     for tried in rows_of(one.sorts(), many)))
                continue
            lengths[len(row)] = lengths.get(len(row), 0) + 1
            self.assertTrue(slow_part(one, other, row))
            self.assertEqual(len(parting(other, one)), len(row))
            if len(row) <= (5 if len(one.sorts()) < 3 else 3):
                for shorter in shorter_rows(one.sorts(), len(row)):
                    self.assertFalse(shorter and slow_part(one, other, shorter))
        for many in (0, 1, 2, 3, 4):
            self.assertGreater(lengths.get(many, 0), 1, lengths)

    def test_unlike_books_by_chance(self):
        chance = seeded(71)
        for _ in range(100):
            one, other = random_book(chance), random_book(chance)
            if sorted(one.sorts()) != sorted(other.sorts()):
                self.assertRaises(UnlikeSorts, parting, one, other)
                continue
            row = parting(one, other)
            if row is not None:
                self.assertTrue(slow_part(one, other, row))

    def test_kinds_and_digits(self):
        chance = seeded(72)
        for _ in range(60):
            one = random_book(chance)
            row = parting(one, changed(chance, one))
            if row is None:
                continue
            self.assertIs(type(row), list)
            for letter in row:
                self.assertEqual([type(part) for part in (letter,) + letter], [tuple, str, int])
                self.assertLess(abs(letter[1]), 10 ** 9)
            standing_of(one, row)

    def test_it_is_new_each_time(self):
        one, other = example_book(), example_book().without([("none", "show", "newer")])
        parting(one, other).clear()
        self.assertEqual(parting(one, other), [("show", 1)])


class AlikeTest(unittest.TestCase):
    """[28]"""

    def test_a_book_is_alike_with_itself(self):
        chance = seeded(73)
        for book in [example_book()] + [random_book(chance) for _ in range(60)]:
            self.assertIs(alike(book, book), True)
            self.assertIsNone(parting(book, book))

    def test_other_words_for_states(self):
        chance = seeded(74)
        for _ in range(60):
            book = random_book(chance)
            words = chance.sample(["a", "b", "c", "d", "p", "q", "r", "s"], len(book.states()))
            names = dict(zip(book.states(), words))
            self.assertIs(alike(book, renamed(book, names)), True)
            self.assertIs(alike(renamed(book, names, lambda told: told[::-1]), book), True)

    def test_the_example_in_other_words(self):
        names = {"none": "read", "new": "none", "read": "new"}
        self.assertIs(alike(example_book(), renamed(example_book(), names)), True)
        rows = renamed(example_book(), names).rows()
        del rows[("read", "seen", "newer")]
        other = Book(["new", "read", "none"], ["gone", "show", "seen"], "read", rows, worths={"none": 1})
        row = parting(example_book(), other)
        self.assertEqual(len(row), 2)
        self.assertTrue(slow_part(example_book(), other, row))

    def test_effects_of_states_that_no_row_comes_to(self):
        chance = seeded(75)
        changes = 0
        for _ in range(150):
            book = random_book(chance)
            led = {standing[0] for _, standing in standings(book)}
            for state in book.states():
                if state not in led:
                    changes += 1
                    rows = {**book.rows(), (state, book.sorts()[0], "newer"): (book.first(), True, True, 9)}
                    self.assertIs(alike(book, with_rows(book, rows)), True)
                    self.assertIs(alike(book, with_rows(book, {**rows, (state, book.sorts()[0], "same"):
                                                               (state, True, True, "whole")})), True)
        self.assertGreater(changes, 10)

    def test_more_states_that_do_the_same(self):
        chance = seeded(76)
        for _ in range(80):
            book = few_states(chance)
            self.assertIs(alike(book, doubled(chance, book)), True)
            self.assertIs(alike(doubled(chance, book), doubled(chance, book)), True)

    def test_sorts_in_another_order(self):
        other = Book(["read", "new", "none"], ["gone", "show", "seen"], "none", example_rows(), worths={"new": 1})
        self.assertIs(alike(example_book(), other), True)


class UnlikeSortsTest(unittest.TestCase):

    def test_other_sorts(self):
        one = Book(["x"], ["s", "t"], "x", {})
        for sorts in (["s"], ["t"], ["s", "u"], ["s", "t", "u"], ["st"], ["x"], ["x", "s"]):
            other = Book(["x"], sorts, "x", {})
            for told in (alike, parting):
                self.assertRaises(UnlikeSorts, told, one, other)
                self.assertRaises(UnlikeSorts, told, other, one)
        self.assertIs(alike(one, Book(["x"], ["t", "s"], "x", {})), True)


class DevicesAlikeTest(unittest.TestCase):
    """[44], as far as two devices show it."""

    def test_devices_with_books_alike_ring_alike_and_have_the_same_badge(self):
        chance = seeded(77)
        for _ in range(100):
            one = few_states(chance)
            other = doubled(chance, one)
            left, right = Device(one), Device(other)
            for _ in range(40):
                letter = (chance.choice(["k", "l", "m"]), chance.choice(one.sorts()), chance.randint(0, 5))
                self.assertEqual(left.take(*letter), right.take(*letter))
                self.assertEqual((left.badge(), left.error()), (right.badge(), right.error()))

    def test_in_other_orders_they_may_not(self):
        left, right = Device(example_book()), Device(example_book())
        letters = [("k", "show", 1), ("k", "gone", 1)]
        self.assertEqual([left.take(*letter) for letter in letters], [(True, 1), (False, 0)])
        self.assertEqual([right.take(*letter) for letter in reversed(letters)], [(False, 0), (False, 0)])

    def test_devices_with_other_books_do_the_same_up_to_the_letter_at_which_they_part(self):
        chance = seeded(78)
        parted = 0
        for _ in range(100):
            one = random_book(chance)
            other = changed(chance, one)
            row = parting(one, other)
            if row is None:
                continue
            parted += 1
            left, right = Device(one), Device(other)
            for sort, number in row[:-1]:
                self.assertEqual(left.take("k", sort, number), right.take("k", sort, number))
                self.assertEqual(left.error(), right.error())
            self.assertTrue(slow_part(one, other, row))
        self.assertGreater(parted, 30)


if __name__ == "__main__":
    unittest.main()
