"""[16] to [18]: moves, the standings of all rows, and rows that lead there."""

import itertools
import unittest

from heldnotes.books import Book
from heldnotes.errors import BadStanding
from heldnotes.standings import moves, row_to, standing_of, standings
from tests.samples import any_objects, deep, example_book, random_book, same_object, seeded
from tests.slow import roomy, rows_of, shorter_rows, slow_move, slow_moves, slow_standing

SPOTS = {"lower": ["below", "between", "held", "newest", "top"], "newest": ["below", "newest", "top"],
         "none": ["between", "newest", "top"]}


def small():
    """A book whose three ages of sort s differ in all they tell; sort t is idle."""
    return Book(["x", "y"], ["t", "s"], "x", {
        ("x", "s", "newer"): ("y", True, False, 1),
        ("x", "s", "same"): ("x", False, True, 2),
        ("x", "s", "elder"): ("y", True, True, "whole"),
        ("y", "s", "newer"): ("x", False, True, -4),
    }, worths={"y": 3})


def all_forms(book):
    """Everything that has the form of a standing."""
    told = [(book.first(), "none", (), False)]
    for state, place, rung in itertools.product(book.states(), ("none", "newest", "lower"), (False, True)):
        for many in range(1, len(book.sorts()) + 1):
            for come in itertools.combinations(sorted(book.sorts()), many):
                told.append((state, place, come, rung))
    return told


class MovesTest(unittest.TestCase):

    def test_at_the_first_standing_there_is_just_the_top(self):
        self.assertEqual(moves(small(), ("x", "none", (), False)), [
            ("top", "s", ("y", "newest", ("s",), False), False, 1),
            ("top", "t", ("x", "none", ("t",), False), False, 0),
        ])

    def test_at_the_place_none_with_something_come(self):
        self.assertEqual(moves(small(), ("x", "none", ("t",), True)), [
            ("between", "s", ("y", "lower", ("t",), True), False, 1),
            ("between", "t", ("x", "none", ("t",), True), False, 0),
            ("newest", "s", ("y", "newest", ("s", "t"), True), False, 1),
            ("newest", "t", ("x", "none", ("t",), True), False, 0),
            ("top", "s", ("y", "newest", ("s",), False), False, 1),
            ("top", "t", ("x", "none", ("t",), False), False, 0),
        ])

    def test_at_the_place_newest(self):
        self.assertEqual(moves(small(), ("x", "newest", ("s",), False)), [
            ("below", "s", ("y", "lower", ("s",), False), True, "whole"),
            ("below", "t", ("x", "newest", ("s",), False), False, 0),
            ("newest", "s", ("x", "newest", ("s",), True), True, 2),
            ("newest", "t", ("x", "newest", ("s", "t"), False), False, 0),
            ("top", "s", ("y", "newest", ("s",), False), False, 1),
            ("top", "t", ("x", "lower", ("t",), False), False, 0),
        ])

    def test_at_the_place_lower(self):
        self.assertEqual(moves(small(), ("x", "lower", ("t",), False)), [
            ("below", "s", ("y", "lower", ("t",), False), True, "whole"),
            ("below", "t", ("x", "lower", ("t",), False), False, 0),
            ("between", "s", ("y", "lower", ("t",), False), False, 1),
            ("between", "t", ("x", "lower", ("t",), False), False, 0),
            ("held", "s", ("x", "lower", ("t",), False), True, 2),
            ("held", "t", ("x", "lower", ("t",), False), False, 0),
            ("newest", "s", ("y", "newest", ("s", "t"), False), False, 1),
            ("newest", "t", ("x", "lower", ("t",), False), False, 0),
            ("top", "s", ("y", "newest", ("s",), False), False, 1),
            ("top", "t", ("x", "lower", ("t",), False), False, 0),
        ])

    def test_a_ring_at_the_newest_is_kept_until_a_letter_at_top(self):
        self.assertEqual(moves(small(), ("y", "lower", ("s",), True)), [
            ("below", "s", ("y", "lower", ("s",), True), False, 0),
            ("below", "t", ("y", "lower", ("s",), True), False, 0),
            ("between", "s", ("x", "lower", ("s",), True), True, -4),
            ("between", "t", ("y", "lower", ("s",), True), False, 0),
            ("held", "s", ("y", "lower", ("s",), True), False, 0),
            ("held", "t", ("y", "lower", ("s",), True), False, 0),
            ("newest", "s", ("x", "lower", ("s",), True), True, -4),
            ("newest", "t", ("y", "lower", ("s", "t"), True), False, 0),
            ("top", "s", ("x", "lower", ("s",), True), True, -4),
            ("top", "t", ("y", "lower", ("t",), False), False, 0),
        ])

    def test_a_ring_below_the_newest_is_none_of_it(self):
        told = moves(small(), ("y", "lower", ("s",), False))
        self.assertIn(("between", "s", ("x", "lower", ("s",), False), True, -4), told)
        self.assertIn(("newest", "s", ("x", "lower", ("s",), True), True, -4), told)

    def test_a_same_letter_that_holds_keeps_the_place(self):
        rows = {("x", "s", "same"): ("x", True, False, 0)}
        told = moves(Book(["x"], ["s"], "x", rows), ("x", "lower", ("s",), False))
        self.assertIn(("held", "s", ("x", "lower", ("s",), False), False, 0), told)
        told = moves(Book(["x"], ["s"], "x", rows), ("x", "newest", ("s",), False))
        self.assertIn(("newest", "s", ("x", "newest", ("s",), False), False, 0), told)

    def test_forms_that_no_row_leads_to_have_moves_too(self):
        book = example_book()
        led = dict((standing, many) for many, standing in standings(book))
        many = 0
        for standing in all_forms(book):
            told = moves(book, standing)
            many += standing not in led
            spots = SPOTS[standing[1]] if standing[2] else ["top"]
            self.assertEqual([move[:2] for move in told],
                             [(spot, sort) for spot in spots for sort in ("gone", "seen", "show")])
        self.assertEqual(many, 1 + 3 * 3 * 7 * 2 - 11)

    def test_they_ascend(self):
        chance = seeded(30)
        for _ in range(30):
            book = random_book(chance, wholes=False)
            for standing in all_forms(book):
                told = moves(book, standing)
                self.assertEqual(told, sorted(told))
                self.assertEqual(len(set(told)), len(told))

    def test_kinds(self):
        told = moves(small(), ("x", "newest", ("s",), False))
        self.assertIs(type(told), list)
        for move in told:
            self.assertIs(type(move), tuple)
            self.assertEqual([type(part) for part in move[:4]], [str, str, tuple, bool])
            self.assertEqual([type(part) for part in move[2]], [str, str, tuple, bool])
        self.assertEqual([type(move[4]) for move in told], [str] + [int] * 5)

    def test_they_are_new_each_time(self):
        book, first = small(), ("x", "none", (), False)
        told = moves(book, first)
        told.clear()
        self.assertEqual(len(moves(book, first)), 2)

    def test_letters_make_moves_and_moves_have_letters(self):
        chance = seeded(31)
        for _ in range(12):
            book = random_book(chance)
            for _, standing in standings(book):
                row = roomy(row_to(book, standing))
                made = {slow_move(book, longer) for longer in slow_moves(book, row)}
                self.assertEqual(made, set(moves(book, standing)))


class BadStandingTest(unittest.TestCase):

    def setUp(self):
        self.book = Book(["x", "y"], ["t", "s"], "x", {("x", "s", "newer"): ("y", True, True, 1)})

    def refused(self, thing):
        for told in (moves, row_to):
            with self.assertRaises(BadStanding) as caught:
                told(self.book, thing)
            self.assertTrue(same_object(caught.exception.standing, thing))

    def test_things_of_any_kind(self):
        for at, thing in enumerate(any_objects() + [deep(4), (1, 2, 3, 4), ("x", "y", "s", "t"), ((), (), (), ())]):
            with self.subTest(at=at):
                self.refused(thing)

    def test_parts_of_any_kind(self):
        for at, thing in enumerate(any_objects() + ["s", "t", "lowest", "top", "held"]):
            with self.subTest(at=at):
                if thing not in ("x", "y"):
                    self.refused((thing, "newest", ("s",), True))
                if thing != "none":
                    self.refused(("x", thing, ("s",), True))
                if not isinstance(thing, bool):
                    self.refused(("x", "newest", ("s",), thing))
                if thing != ():
                    self.refused(("x", "newest", thing, True))
                    self.refused(("x", "none", thing, False))
                if thing not in ("s", "t"):
                    self.refused(("x", "newest", (thing,), True))
                    self.refused(("x", "newest", ("s", thing), True))
                    self.refused(("x", "newest", (thing, "t"), True))

    def test_lists_are_none(self):
        for thing in (["x", "none", (), False], ("x", "none", [], False), ["x", "newest", ["s"], True],
                      ("x", "newest", ["s"], True), ["x", "newest", ("s",), True], ("x", "newest", ["s", "t"], True)):
            self.refused(thing)

    def test_0_and_1_are_no_truths(self):
        for thing in (("x", "none", (), 0), ("x", "newest", ("s",), 0), ("x", "newest", ("s",), 1),
                      ("y", "lower", ("s", "t"), 1)):
            self.refused(thing)

    def test_come_has_each_sort_once_ascending(self):
        for come in (("s", "s"), ("t", "s"), ("s", "t", "t"), ("s", "t", "u"), ("u",), ("x",), "s", "st", {"s": 1},
                     {"s": 1, "t": 2}, ("s", ("t",)), (("s", "t"),), ("",), (None,)):
            self.refused(("x", "newest", come, True))

    def test_come_is_empty_just_in_the_first_standing(self):
        self.refused(("y", "none", (), False))
        for state in ("x", "y"):
            for place in ("none", "newest", "lower"):
                for rung in (False, True):
                    if (state, place, rung) != ("x", "none", False):
                        self.refused((state, place, (), rung))

    def test_too_short_or_too_long(self):
        for thing in ((), ("x",), ("x", "none", ()), ("x", "none", (), False, False), ("x", "newest", ("s",)),
                      ("x", "newest", ("s",), True, 1)):
            self.refused(thing)

    def test_all_forms_are_fine(self):
        for standing in all_forms(self.book):
            self.assertTrue(moves(self.book, standing))

    def test_row_to_refuses_standings_that_no_row_leads_to(self):
        led = [standing for _, standing in standings(self.book)]
        refused = 0
        for standing in all_forms(self.book):
            if standing in led:
                self.assertEqual(standing_of(self.book, row_to(self.book, standing)), standing)
                continue
            refused += 1
            with self.assertRaises(BadStanding) as caught:
                row_to(self.book, standing)
            self.assertTrue(same_object(caught.exception.standing, standing))
        self.assertEqual(refused + len(led), 37)
        self.assertGreater(refused, 0)


class StandingsTest(unittest.TestCase):

    def test_the_example(self):
        self.assertEqual(standings(example_book()), [
            (0, ("none", "none", (), False)),
            (1, ("new", "newest", ("show",), True)),
            (1, ("none", "newest", ("gone",), False)),
            (1, ("read", "newest", ("seen",), False)),
            (2, ("none", "newest", ("gone", "seen"), False)),
            (2, ("none", "newest", ("gone", "show"), False)),
            (2, ("none", "newest", ("gone", "show"), True)),
            (2, ("read", "newest", ("seen", "show"), False)),
            (2, ("read", "newest", ("seen", "show"), True)),
            (3, ("none", "newest", ("gone", "seen", "show"), False)),
            (3, ("none", "newest", ("gone", "seen", "show"), True)),
        ])

    def test_a_book_without_rows(self):
        self.assertEqual(standings(Book(["x", "y"], ["t", "s"], "y", {})), [
            (0, ("y", "none", (), False)), (1, ("y", "none", ("s",), False)), (1, ("y", "none", ("t",), False)),
            (2, ("y", "none", ("s", "t"), False))])

    def test_the_least_book(self):
        self.assertEqual(standings(Book(["x"], ["s"], "x", {})),
                         [(0, ("x", "none", (), False)), (1, ("x", "none", ("s",), False))])

    def test_kinds(self):
        told = standings(example_book())
        self.assertIs(type(told), list)
        for pair in told:
            self.assertEqual([type(part) for part in (pair,) + pair], [tuple, int, tuple])
            self.assertEqual([type(part) for part in pair[1]], [str, str, tuple, bool])

    def test_they_are_new_each_time(self):
        book = example_book()
        standings(book).clear()
        self.assertEqual(len(standings(book)), 11)

    def test_they_are_those_of_all_rows_and_the_fewest_letters(self):
        chance = seeded(32)
        for _ in range(25):
            book = random_book(chance)
            longest = 4 if len(book.sorts()) < 3 else 3
            fewest = {}
            for many in range(longest + 1):
                for row in rows_of(book.sorts(), many):
                    fewest.setdefault(slow_standing(book, row), many)
            told = standings(book)
            self.assertEqual(told, sorted(told))
            self.assertEqual({standing: many for many, standing in told if many <= longest}, fewest)
            self.assertEqual(len({standing for _, standing in told}), len(told))

    def test_no_row_leads_elsewhere(self):
        chance = seeded(33)
        for _ in range(100):
            book = random_book(chance)
            led = {standing for _, standing in standings(book)}
            self.assertEqual({move[2] for standing in led for move in moves(book, standing)} - led, set())
            row = [(chance.choice(book.sorts()), chance.randint(0, 8)) for _ in range(40)]
            for many in range(41):
                self.assertIn(standing_of(book, row[:many]), led)


class RowToTest(unittest.TestCase):

    def test_the_first_standing_has_the_empty_row(self):
        self.assertEqual(row_to(example_book(), ("none", "none", (), False)), [])

    def test_rows_lead_there_with_the_fewest_letters(self):
        chance = seeded(34)
        for _ in range(60):
            book = random_book(chance)
            for many, standing in standings(book):
                row = row_to(book, standing)
                self.assertEqual(len(row), many)
                self.assertEqual(slow_standing(book, row), standing)

    def test_no_shorter_row_leads_there(self):
        chance = seeded(35)
        for _ in range(12):
            book = random_book(chance)
            longest = 4 if len(book.sorts()) < 3 else 3
            for _, standing in standings(book):
                row = row_to(book, standing)
                for shorter in shorter_rows(book.sorts(), min(len(row), longest)):
                    self.assertNotEqual(slow_standing(book, shorter), standing)

    def test_a_number_between_two_others(self):
        # The letter of sort u is to be newer than the held number and below the newest.
        book = Book(["x", "y", "z"], ["s", "t", "u"], "x", {
            ("x", "s", "newer"): ("y", True, False, 0), ("y", "u", "newer"): ("z", True, False, 0),
            ("z", "s", "elder"): ("x", False, False, 0)})
        standing = ("z", "lower", ("t",), False)
        row = row_to(book, standing)
        self.assertEqual([sort for sort, _ in row], ["s", "t", "u"])
        self.assertLess(row[0][1], row[2][1])
        self.assertLess(row[2][1], row[1][1])
        self.assertEqual(standing_of(book, row), standing)

    def test_numbers_below_all_others(self):
        book = Book(["a", "b", "c", "d"], ["s"], "a", {
            ("a", "s", "newer"): ("b", True, False, 0), ("b", "s", "elder"): ("c", True, False, 0),
            ("c", "s", "elder"): ("d", True, False, 0)})
        row = row_to(book, ("d", "lower", ("s",), False))
        self.assertEqual(len(row), 3)
        self.assertGreater(row[0][1], row[1][1])
        self.assertGreater(row[1][1], row[2][1])

    def test_kinds_and_digits(self):
        chance = seeded(36)
        for _ in range(20):
            book = random_book(chance)
            for _, standing in standings(book):
                row = row_to(book, standing)
                self.assertIs(type(row), list)
                for letter in row:
                    self.assertEqual([type(part) for part in (letter,) + letter], [tuple, str, int])
                    self.assertLess(abs(letter[1]), 10 ** 9)

    def test_they_are_new_each_time(self):
        book, standing = example_book(), ("read", "newest", ("seen", "show"), True)
        row = row_to(book, standing)
        row.append(None)
        self.assertEqual(row_to(book, standing), row[:-1])
        self.assertEqual(len(row_to(book, standing)), 2)


if __name__ == "__main__":
    unittest.main()
