"""[14], [15], [45]: the standing behind a row."""

import unittest

from heldnotes.books import Book
from heldnotes.devices import Device
from heldnotes.errors import BadLetter
from heldnotes.standings import moves, row_to, standing_of, standings
from tests.samples import (any_objects, deep, example_book, not_ints, not_words, random_book, same_object, seeded)
from tests.slow import roomy, rows_of, slow_standing, walk


def one_state(**ages):
    """A book of state x and sorts s and t; the effects (holds, rings) of letters by sort and age."""
    rows = {}
    for name, (holds, rings) in ages.items():
        sort, age = name.split("_")
        rows[("x", sort, age)] = ("x", holds, rings, 0)
    return Book(["x"], ["s", "t"], "x", rows)


class StandingOfTest(unittest.TestCase):

    def test_the_empty_row(self):
        for row in ([], ()):
            self.assertEqual(standing_of(example_book(), row), ("none", "none", (), False))
        book = Book(["x", "y"], ["s"], "y", {("x", "s", "newer"): ("y", True, True, 1)})
        self.assertEqual(standing_of(book, []), ("y", "none", (), False))

    def test_rows_of_the_example(self):
        told = [
            ([("show", 1)], ("new", "newest", ("show",), True)),
            ([("show", 1), ("seen", 1)], ("read", "newest", ("seen", "show"), True)),
            ([("seen", 1), ("show", 1)], ("read", "newest", ("seen", "show"), False)),
            ([("seen", 1), ("gone", 1), ("show", 1)], ("none", "newest", ("gone", "seen", "show"), False)),
            ([("show", 1), ("gone", 2)], ("none", "newest", ("gone",), False)),
            ([("show", 1), ("gone", 2), ("show", 1)], ("none", "newest", ("gone",), False)),
            ([("show", 1), ("gone", 2), ("show", 2)], ("none", "newest", ("gone", "show"), False)),
            ([("show", 1), ("gone", 2), ("show", 3)], ("new", "newest", ("show",), True)),
            ([("show", 5), ("show", 5), ("show", 4)], ("new", "newest", ("show",), True)),
        ]
        for row, standing in told:
            self.assertEqual(standing_of(example_book(), row), standing)

    def test_place_none_with_something_come(self):
        book = one_state(s_newer=(False, False), t_newer=(False, True))
        self.assertEqual(standing_of(book, [("s", 1)]), ("x", "none", ("s",), False))
        self.assertEqual(standing_of(book, [("s", 1), ("t", 0)]), ("x", "none", ("s",), False))
        self.assertEqual(standing_of(book, [("s", 1), ("t", 1)]), ("x", "none", ("s", "t"), True))
        self.assertEqual(standing_of(book, [("s", 1), ("t", 2)]), ("x", "none", ("t",), True))

    def test_place_lower(self):
        book = one_state(s_newer=(True, False), t_newer=(False, False), t_elder=(True, False))
        self.assertEqual(standing_of(book, [("s", 1)]), ("x", "newest", ("s",), False))
        self.assertEqual(standing_of(book, [("s", 1), ("t", 2)]), ("x", "lower", ("t",), False))
        self.assertEqual(standing_of(book, [("s", 1), ("t", 3), ("s", 2)]), ("x", "lower", ("t",), False))
        self.assertEqual(standing_of(book, [("s", 1), ("t", 3), ("s", 3)]), ("x", "newest", ("s", "t"), False))
        self.assertEqual(standing_of(book, [("s", 3), ("t", 1)]), ("x", "lower", ("s",), False))
        self.assertEqual(standing_of(book, [("s", 3), ("t", 1), ("s", 2)]), ("x", "lower", ("s",), False))
        self.assertEqual(standing_of(book, [("s", 3), ("t", 1), ("s", 3)]), ("x", "newest", ("s",), False))

    def test_a_held_0_and_a_held_number_below_0(self):
        book = one_state(s_newer=(True, False), t_newer=(False, False))
        self.assertEqual(standing_of(book, [("s", 0)]), ("x", "newest", ("s",), False))
        self.assertEqual(standing_of(book, [("s", 0), ("t", 1)]), ("x", "lower", ("t",), False))
        self.assertEqual(standing_of(book, [("t", 0), ("s", -7)]), ("x", "lower", ("t",), False))
        self.assertEqual(standing_of(book, [("s", -7)]), ("x", "newest", ("s",), False))

    def test_rung_is_of_the_newest_alone(self):
        book = one_state(s_newer=(True, True), t_newer=(True, False), t_elder=(False, True))
        self.assertEqual(standing_of(book, [("s", 1)]), ("x", "newest", ("s",), True))
        self.assertEqual(standing_of(book, [("s", 1), ("t", 2)]), ("x", "newest", ("t",), False))
        self.assertEqual(standing_of(book, [("t", 2), ("t", 1)]), ("x", "newest", ("t",), False))
        self.assertEqual(standing_of(book, [("s", 2), ("s", 2), ("t", 2)]), ("x", "newest", ("s", "t"), True))

    def test_rung_at_an_earlier_or_a_later_letter_of_the_newest(self):
        book = one_state(s_newer=(False, False), t_newer=(True, True), s_same=(False, True))
        self.assertEqual(standing_of(book, [("s", 1), ("t", 1)]), ("x", "newest", ("s", "t"), True))
        self.assertEqual(standing_of(book, [("t", 0), ("s", 1), ("s", 0)]), ("x", "lower", ("s",), False))

    def test_come_ascends_whatever_the_order_of_the_sorts(self):
        book = Book(["x"], ["u", "s", "t"], "x", {})
        self.assertEqual(standing_of(book, [("u", 1), ("t", 1), ("u", 1), ("s", 1)]),
                         ("x", "none", ("s", "t", "u"), False))

    def test_kinds(self):
        for row in ([], [("show", 1)], [["show", 1], ["seen", 2]]):
            told = standing_of(example_book(), row)
            self.assertEqual([type(part) for part in (told,) + told], [tuple, str, str, tuple, bool])

    def test_lists_and_tuples(self):
        book = example_book()
        expected = ("read", "newest", ("seen", "show"), True)
        for row in ([("show", 1), ("seen", 1)], [["show", 1], ["seen", 1]], (("show", 1), ["seen", 1]),
                    (["show", 1], ("seen", 1))):
            self.assertEqual(standing_of(book, row), expected)

    def test_numbers_of_many_digits(self):
        book = example_book()
        self.assertEqual(standing_of(book, [("show", -10 ** 12 + 1), ("seen", 10 ** 12 - 1)]),
                         ("read", "newest", ("seen",), False))
        self.assertEqual(standing_of(book, [("show", 10 ** 12 - 1), ("seen", 10 ** 12 - 2)]),
                         ("new", "newest", ("show",), True))

    def test_all_short_rows_of_books_by_chance(self):
        chance = seeded(20)
        seen = set()
        for _ in range(60):
            book = random_book(chance)
            for many in range(4):
                for row in rows_of(book.sorts(), many):
                    told = standing_of(book, row)
                    self.assertEqual(told, slow_standing(book, row))
                    seen.add(told[1:])
        # All places with as many sorts come as three letters can make, rung and not.
        self.assertEqual({(place, len(come), rung) for place, come, rung in seen if come},
                         {(place, many, rung) for place in ("none", "newest", "lower") for many in (1, 2, 3)
                          for rung in (True, False) if (place, many) != ("lower", 3)})

    def test_long_rows_of_books_by_chance(self):
        chance = seeded(21)
        for _ in range(300):
            book = random_book(chance)
            row = [(chance.choice(book.sorts()), chance.randint(-4, 4)) for _ in range(chance.randint(0, 40))]
            self.assertEqual(standing_of(book, row), slow_standing(book, row))

    def test_devices_stand_as_told(self):
        chance = seeded(22)
        for _ in range(100):
            book = random_book(chance)
            row = [(chance.choice(book.sorts()), chance.randint(0, 5)) for _ in range(chance.randint(1, 12))]
            device = Device(book)
            for sort, number in row:
                device.take("k", sort, number)
            state, place, _, _ = standing_of(book, row)
            newest = max(number for _, number in row)
            self.assertEqual(state, device.state("k"))
            self.assertEqual(place == "none", device.held("k") is None)
            self.assertEqual(place == "newest", device.held("k") == newest)


class BadLetterTest(unittest.TestCase):

    def setUp(self):
        self.book = example_book()

    def refused(self, index, row):
        with self.assertRaises(BadLetter) as caught:
            standing_of(self.book, row)
        self.assertTrue(same_object(caught.exception.index, index))

    def test_things_that_are_no_lists(self):
        for at, thing in enumerate(any_objects() + ["show", {("show", 1): 1}, {0: ("show", 1)}]):
            if not isinstance(thing, (list, tuple)):
                with self.subTest(at=at):
                    self.refused(0, thing)

    def test_letters_of_any_kind(self):
        wrong = any_objects() + [("show",), ("show", 1, 1), (1, "show"), ("hide", 1), ("new", 1), ["Show", 1],
                                 (("show",), 1), (["show"], 1), ("show", (1,)), [("show", 1)], (("show", 1),),
                                 {"show": 1}, {0: "show", 1: 1}, "ab", deep(9)]
        for at, thing in enumerate(wrong):
            with self.subTest(at=at):
                self.refused(0, [thing])
                self.refused(0, (thing,))
                self.refused(2, [("show", 1), ["seen", 2], thing])
                self.refused(1, (["gone", -1], thing, thing, ("show", 1)))

    def test_sorts_and_numbers_of_any_kind(self):
        for at, thing in enumerate(not_words() + ["new", "hide", "shows"]):
            with self.subTest(at=at):
                self.refused(1, [("show", 1), (thing, 1)])
        for at, thing in enumerate(not_ints()):
            with self.subTest(at=at):
                self.refused(1, [("show", 1), ["show", thing]])

    def test_the_first_one_is_told(self):
        self.refused(1, [("show", 1), ("show", True), ("hide", 1)])
        self.refused(0, [("hide", 1), ("show", True)])
        self.refused(40, [("show", 1)] * 40 + [None] * 2)

    def test_what_is_passed_is_not_changed(self):
        row = [["show", 1], ("hide", 2)]
        self.refused(1, row)
        self.assertEqual(row, [["show", 1], ("hide", 2)])
        row.pop()
        standing_of(self.book, row)
        self.assertEqual(row, [["show", 1]])


class OrderAloneTest(unittest.TestCase):
    """[45]"""

    def test_numbers_are_looked_at_by_order_alone(self):
        chance = seeded(23)
        for _ in range(150):
            book = random_book(chance)
            row = [(chance.choice(book.sorts()), chance.randint(0, 6)) for _ in range(chance.randint(0, 12))]
            others = sorted(chance.sample(range(-10 ** 12 + 1, 10 ** 12), 7))
            other = [(sort, others[number]) for sort, number in row]
            self.assertEqual(standing_of(book, row), standing_of(book, other))
            one, two = Device(book), Device(book)
            for (sort, number), (_, far) in zip(row, other):
                self.assertEqual(one.take("k", sort, number), two.take("k", sort, far))
                self.assertEqual(one.error(), two.error())


class AsToldTest(unittest.TestCase):
    """[5], [17]: what was told may be passed on, and one letter more makes one of the moves."""

    def test_told_rows_and_standings_may_be_passed_on(self):
        chance = seeded(24)
        for _ in range(20):
            book = random_book(chance)
            for many, standing in standings(book):
                row = row_to(book, standing)
                self.assertEqual(len(row), many)
                self.assertEqual(standing_of(book, row), standing)
                self.assertEqual(standing_of(book, [list(letter) for letter in row]), standing)
                for sort in book.sorts():
                    for number in (-1, 5, 10, 15, 10 ** 6):
                        longer = roomy(row) + [(sort, number)]
                        _, _, rings, step = walk(book, longer)[-1]
                        self.assertIn((sort, standing_of(book, longer), rings, step),
                                      [move[1:] for move in moves(book, standing)])


if __name__ == "__main__":
    unittest.main()
