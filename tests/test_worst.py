"""[31], [32], [36], [46]: how great errors become, and how soon."""

import unittest

from heldnotes.badges import rates, seldom, worst
from heldnotes.books import Book
from heldnotes.errors import BadBound, BadSince
from tests.samples import (AGES, any_objects, example_book, mild_book, random_book, right_book, same_object, seeded,
                           whole_book, with_rows)
from tests.slow import rows_of, slow_errors, slow_levels


def one_state(*steps):
    """A book of one state and one sort with these steps for newer, same and elder."""
    return Book(["x"], ["s"], "x", {("x", "s", age): ("x", True, False, step) for age, step in zip(AGES, steps)})


def around(*steps):
    """A book in which all letters lead around its states, with one of the steps each."""
    states = ["a", "b", "c", "d"][:len(steps)]
    rows = {(state, "s", age): (states[(at + 1) % len(steps)], False, False, steps[at])
            for at, state in enumerate(states) for age in AGES}
    return Book(states, ["s"], "a", rows)


def extremes(pairs, since):
    """The least and the greatest error of the rows with these errors and stretches that have at most this stretch."""
    errors = [error for error, stretch in pairs if stretch <= since]
    return (min(errors), max(errors))


class WorstTest(unittest.TestCase):

    def test_one_sided_and_two_sided_steps(self):
        for since in (0, 1, 2, 17, 60):
            self.assertEqual(worst(one_state(1, 1, 1), since), (0, since))
            self.assertEqual(worst(one_state(-9, 0, 0), since), (-9 * since, 0))
            # The first letter is newer; each one behind it can be elder than the one ahead.
            self.assertEqual(worst(one_state(0, 0, 9), since), (0, 9 * max(0, since - 1)))
            self.assertEqual(worst(one_state(3, -2, 0), since), (min(0, 3 - 2 * (since - 1)) if since else 0, 3 * since))
            self.assertEqual(worst(around(2, -1, -1), since), (0, 2 if since else 0))
            self.assertEqual(worst(example_book(), since), (0, 0))
            self.assertEqual(worst(whole_book(), since), (0, 0))

    def test_a_stretch_may_begin_behind_a_whole(self):
        # t at x leads to y by a whole, and only from there s counts.
        rows = {("x", "t", "newer"): ("y", False, False, "whole"), ("y", "s", "newer"): ("y", False, False, 5)}
        book = Book(["x", "y"], ["s", "t"], "x", rows, worths={"x": 2, "y": -7})
        for since in (0, 1, 2, 3, 60):
            self.assertEqual(worst(book, since), (0, 5 * since))
        # With a step in its place the error of the first letter counts, too, and the letter counts as one.
        other = with_rows(book, {**rows, ("x", "t", "newer"): ("y", False, False, -9)})
        for since in (0, 1, 2, 3, 60):
            self.assertEqual(worst(other, since), (0, 5 * (since - 1)) if since > 1 else (0, 0))

    def test_a_whole_far_from_the_first_standing(self):
        rows = {("a", "s", "newer"): ("b", False, False, 0), ("b", "s", "newer"): ("c", False, False, 0),
                ("c", "s", "newer"): ("d", False, False, "whole"), ("d", "s", "newer"): ("a", False, False, -3)}
        book = Book(["a", "b", "c", "d"], ["s"], "a", rows)
        self.assertEqual([worst(book, since) for since in (0, 1, 2, 3, 4, 60)], [(0, 0)] + [(-3, 0)] * 5)

    def test_a_letter_that_a_whole_undoes(self):
        rows = {("x", "s", "newer"): ("y", False, False, 9), ("y", "s", "newer"): ("x", False, False, "whole")}
        book = Book(["x", "y"], ["s"], "x", rows, worths={"x": 1, "y": 3})
        self.assertEqual([worst(book, since) for since in (0, 1, 2, 60)], [(0, 0), (0, 7), (0, 7), (0, 7)])

    def test_against_all_rows_of_few_letters_in_books_without_wholes(self):
        chance = seeded(100)
        for _ in range(60):
            book = mild_book(chance)
            rows = {key: effect[:3] + (0 if effect[3] == "whole" else effect[3],) for key, effect in book.rows().items()}
            book = with_rows(book, rows)
            most = {1: 5, 2: 4, 3: 3}[len(book.sorts())]
            pairs = [slow_errors(book, row)[-1] for many in range(most + 1) for row in rows_of(book.sorts(), many)]
            for since in range(most + 1):
                self.assertEqual(worst(book, since), extremes(pairs, since))

    def test_against_all_rows_of_few_letters_in_books_with_wholes(self):
        chance = seeded(101)
        equal = 0
        for _ in range(60):
            book = mild_book(chance)
            most = {1: 5, 2: 4, 3: 3}[len(book.sorts())]
            pairs = [slow_errors(book, row)[-1] for many in range(most + 1) for row in rows_of(book.sorts(), many)]
            for since in range(most + 1):
                # Longer rows may be worse, if some standing behind a whole needs so many letters.
                least, greatest = extremes(pairs, since)
                told = worst(book, since)
                self.assertLessEqual(told[0], least)
                self.assertGreaterEqual(told[1], greatest)
                equal += since > 0 and told == (least, greatest) != (0, 0)
        self.assertGreater(equal, 60)

    def test_against_all_moves(self):
        chance = seeded(102)
        for at in range(150):
            book = chance.choice([random_book, mild_book])(chance)
            most = 60 if at < 15 else 12
            levels = slow_levels(book, most)
            for since in range(most + 1) if at < 5 else (0, 1, 2, 3, 7, most):
                self.assertEqual(worst(book, since), levels[since])

    def test_kinds(self):
        told = worst(one_state(1, 2, -3), 5)
        self.assertEqual([type(part) for part in (told,) + told], [tuple, int, int])

    def test_since_that_is_none(self):
        for at, thing in enumerate(any_objects() + [-1, 61, 10 ** 12]):
            if type(thing) is int and 0 <= thing <= 60:
                self.assertEqual(worst(example_book(), thing), (0, 0))
                continue
            with self.subTest(at=at), self.assertRaises(BadSince) as caught:
                worst(one_state(1, 1, 1), thing)
            self.assertTrue(same_object(caught.exception.since, thing))


class SeldomTest(unittest.TestCase):

    def test_steps_up_down_and_both(self):
        for bound in range(13):
            self.assertEqual(seldom(one_state(1, 1, 1), bound), bound)
            self.assertEqual(seldom(one_state(-1, -1, -1), bound), bound)
            self.assertEqual(seldom(one_state(-4, 0, 3), bound), bound // 4)
            self.assertIsNone(seldom(example_book(), bound))
            self.assertIsNone(seldom(whole_book(), bound))
        self.assertEqual([seldom(one_state(9, 9, 9), bound) for bound in (0, 8, 9, 12)], [0, 0, 1, 1])

    def test_an_error_that_comes_no_further(self):
        for bound in range(13):
            self.assertEqual(seldom(around(5, -5), bound), 0 if bound < 5 else None)
            self.assertEqual(seldom(around(-3, -3, 6), bound), 0 if bound < 3 else 1 if bound < 6 else None)
            self.assertEqual(seldom(around(0, 0, 7, -7), bound), 2 if bound < 7 else None)

    def test_a_slow_ring_behind_a_step_the_other_way(self):
        # Every fourth letter counts 1; the first error above the bound comes with as many turns.
        self.assertEqual([seldom(around(0, 0, 0, 1), bound) for bound in (0, 1, 12)], [3, 7, 51])
        self.assertEqual([seldom(around(0, 0, 0, -1), bound) for bound in (0, 1, 12)], [3, 7, 51])
        # The ring at b, where all but the first letter is, begins with -9, which the bound allows.
        rows = {("a", "s", "newer"): ("b", False, False, -9), ("b", "s", "newer"): ("c", False, False, 0),
                ("c", "s", "newer"): ("d", False, False, 0), ("d", "s", "newer"): ("b", False, False, 1)}
        book = Book(["a", "b", "c", "d"], ["s"], "a", rows)
        self.assertEqual([seldom(book, bound) for bound in (0, 8, 9, 12)], [0, 0, 1 + 3 * 19 - 1, 1 + 3 * 22 - 1])
        self.assertEqual(worst(book, 60), (-9, 10))

    def test_a_stretch_behind_a_whole(self):
        rows = {("x", "t", "newer"): ("y", False, False, "whole"), ("y", "s", "newer"): ("y", False, False, 5)}
        book = Book(["x", "y"], ["s", "t"], "x", rows)
        self.assertEqual([seldom(book, bound) for bound in (0, 4, 5, 9, 10, 12)], [0, 0, 1, 1, 2, 2])

    def test_against_worst(self):
        chance = seeded(103)
        told = {}
        for _ in range(150):
            book = chance.choice([random_book, mild_book])(chance)
            for bound in (0, 1, 5, 12):
                k = seldom(book, bound)
                kind = "never" if k is None else "far" if k > 4 else k
                told[kind] = told.get(kind, 0) + 1
                if k is None:
                    least, greatest = worst(book, 60)
                    self.assertTrue(-bound <= least and greatest <= bound)
                    continue
                self.assertIs(type(k), int)
                if k < 60:
                    least, greatest = worst(book, k)
                    self.assertTrue(-bound <= least and greatest <= bound)
                    least, greatest = worst(book, k + 1)
                    self.assertTrue(least < -bound or greatest > bound)
        for kind in ("never", "far", 0, 1, 2, 3):
            self.assertGreater(told.get(kind, 0), 3, told)

    def test_none_only_where_errors_have_both_ends(self):
        chance = seeded(104)
        kinds = {}
        for _ in range(300):
            book = mild_book(chance)
            low, high = rates(book) or ((0, 1), (0, 1))
            kinds[low[0] < 0, high[0] > 0] = kinds.get((low[0] < 0, high[0] > 0), 0) + 1
            levels = slow_levels(book, 20)
            for bound in (0, 3, 12):
                k = seldom(book, bound)
                if low[0] < 0 or high[0] > 0:
                    # [36]
                    self.assertIsNotNone(k)
                else:
                    # No error is greater than that of a row which comes to no state and place twice.
                    within = -bound <= levels[20][0] and levels[20][1] <= bound
                    self.assertIs(k is None, within)
        self.assertEqual(len(kinds), 4)
        self.assertGreater(min(kinds.values()), 3, kinds)

    def test_bound_that_is_none(self):
        for at, thing in enumerate(any_objects() + [-1, 13, 60, 10 ** 12]):
            if type(thing) is int and 0 <= thing <= 12:
                self.assertIsNone(seldom(example_book(), thing))
                continue
            with self.subTest(at=at), self.assertRaises(BadBound) as caught:
                seldom(one_state(1, 1, 1), thing)
            self.assertTrue(same_object(caught.exception.bound, thing))


class AgreeTest(unittest.TestCase):
    """[46]"""

    def test_worst_widens_with_since(self):
        chance = seeded(105)
        for _ in range(40):
            book = mild_book(chance)
            told = [worst(book, since) for since in range(13)]
            self.assertEqual(told[0], (0, 0))
            for before, behind in zip(told, told[1:]):
                self.assertLessEqual(behind[0], before[0])
                self.assertGreaterEqual(behind[1], before[1])

    def test_seldom_grows_with_the_bound(self):
        chance = seeded(106)
        for _ in range(60):
            book = chance.choice([mild_book, right_book])(chance)
            told = [seldom(book, bound) for bound in range(13)]
            numbers = [10 ** 9 if k is None else k for k in told]
            self.assertEqual(numbers, sorted(numbers))


if __name__ == "__main__":
    unittest.main()
