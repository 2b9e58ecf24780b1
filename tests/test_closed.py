"""[2], [22]: closed tables."""

import unittest

from heldnotes.books import Book
from heldnotes.standings import first_standing, moves, row_to, standings
from heldnotes.wishes import breaks, closed, is_closed
from tests.samples import any_objects, example_book, random_book, random_wish, seeded
from tests.slow import roomy, slow_is_break, slow_moves, slow_standing

FIRST = ("x", "none", (), False)
LOWER, ONCE = ("lower",), ("once",)
HOLDS = ("stand", [], [], ["x", "y"])


def small(**more):
    """A book with three standings, and further ones that no row leads to."""
    rows = {("x", "s", "newer"): ("x", True, False, 0), ("y", "s", "newer"): ("x", True, True, 0),
            ("y", "s", "same"): ("x", True, False, 0), ("y", "s", "elder"): ("x", False, False, 0)}
    return Book(["x", "y"], ["s"], "x", rows, **more)


def closure(book, start):
    """All standings that moves lead to from some, these included."""
    led, tried = list(start), 0
    while tried < len(led):
        for move in moves(book, led[tried]):
            if move[2] not in led:
                led.append(move[2])
        tried += 1
    return led


class ClosedTest(unittest.TestCase):

    def test_the_example(self):
        self.assertEqual(closed(example_book(), ("stand", ["gone"], [], ["none"])), [
            ("new", "newest", ("show",), True),
            ("none", "newest", ("gone",), False),
            ("none", "newest", ("gone", "seen"), False),
            ("none", "newest", ("gone", "seen", "show"), False),
            ("none", "newest", ("gone", "seen", "show"), True),
            ("none", "newest", ("gone", "show"), False),
            ("none", "newest", ("gone", "show"), True),
            ("none", "none", (), False),
            ("read", "newest", ("seen",), False),
            ("read", "newest", ("seen", "show"), False),
            ("read", "newest", ("seen", "show"), True),
        ])

    def test_none_if_some_row_breaks(self):
        self.assertIsNone(closed(example_book(), ("stand", ["gone"], [], ["read"])))
        self.assertIsNone(closed(example_book(), ("quiet", [])))

    def test_just_one_of_a_row_that_breaks_and_a_closed_table(self):
        chance = seeded(50)
        kept = lost = 0
        for _ in range(120):
            book = random_book(chance)
            for wish in [random_wish(chance, book) for _ in range(4)]:
                row, table = breaks(book, wish), closed(book, wish)
                if table is None:
                    lost += 1
                    self.assertTrue(slow_is_break(book, wish, row))
                    self.assertIs(is_closed(book, wish, [standing for _, standing in standings(book)]), False)
                else:
                    kept += 1
                    self.assertIsNone(row)
                    self.assertEqual(table, sorted(standing for _, standing in standings(book)))
                    self.assertIs(is_closed(book, wish, table), True)
        self.assertGreater(min(kept, lost), 50)

    def test_tables_can_be_checked_row_by_row(self):
        chance = seeded(51)
        checked = 0
        for _ in range(60):
            book = random_book(chance)
            wish = random_wish(chance, book)
            table = closed(book, wish)
            if table is None:
                continue
            checked += 1
            self.assertIn((book.first(), "none", (), False), table)
            for standing in table:
                for longer in slow_moves(book, roomy(row_to(book, standing))):
                    self.assertIn(slow_standing(book, longer), table)
                    self.assertFalse(slow_is_break(book, wish, longer))
        self.assertGreater(checked, 8)

    def test_kinds(self):
        told = closed(example_book(), LOWER)
        self.assertIs(type(told), list)
        for standing in told:
            self.assertEqual([type(part) for part in (standing,) + standing], [tuple, str, str, tuple, bool])

    def test_it_is_new_each_time(self):
        book = example_book()
        told = closed(book, LOWER)
        told.clear()
        self.assertEqual(len(closed(book, LOWER)), 11)


class IsClosedTest(unittest.TestCase):

    def setUp(self):
        self.book = example_book()
        self.table = closed(self.book, LOWER)

    def test_in_any_order_and_as_a_tuple(self):
        chance = seeded(52)
        for _ in range(10):
            chance.shuffle(self.table)
            self.assertIs(is_closed(self.book, LOWER, self.table), True)
            self.assertIs(is_closed(self.book, LOWER, tuple(self.table)), True)
        self.assertIs(is_closed(self.book, ["lower"], self.table), True)

    def test_with_some_twice(self):
        self.assertIs(is_closed(self.book, LOWER, self.table + self.table[:4]), True)
        self.assertIs(is_closed(self.book, LOWER, self.table * 3), True)

    def test_with_one_left_out(self):
        for standing in self.table:
            rest = [other for other in self.table if other != standing]
            self.assertIs(is_closed(self.book, LOWER, rest), False)
            self.assertIs(is_closed(self.book, LOWER, rest + rest), False)

    def test_with_one_left_out_of_books_by_chance(self):
        chance = seeded(53)
        for _ in range(20):
            book = random_book(chance)
            wish = ("stand", [], [], book.states())
            table = closed(book, wish)
            for standing in table:
                rest = [other for other in table if other != standing]
                self.assertIs(is_closed(book, wish, rest), False)

    def test_without_the_first_one(self):
        self.assertIs(is_closed(small(), HOLDS, [("x", "newest", ("s",), False)]), False)
        self.assertIs(is_closed(small(), HOLDS, [FIRST]), False)
        self.assertIs(is_closed(small(), HOLDS, [FIRST, ("x", "newest", ("s",), False)]), True)
        self.assertIs(is_closed(small(), HOLDS, []), False)
        self.assertIs(is_closed(small(), HOLDS, ()), False)

    def test_with_more_standings(self):
        chance = seeded(54)
        told = {}
        for _ in range(150):
            book = random_book(chance)
            table = closed(book, ("stand", [], [], book.states()))
            states = [state for state in book.states()]
            more = [(chance.choice(states), chance.choice(["none", "newest", "lower"]), (book.sorts()[0],),
                     chance.random() < 0.5)]
            self.assertEqual(is_closed(book, ("stand", [], [], book.states()), table + more),
                             set(closure(book, more)) - set(more) <= set(table))
            for wish in [random_wish(chance, book) for _ in range(3)]:
                wider = closure(book, [first_standing(book)] + more)
                broken = any(self.move_breaks(wish, ahead, move) for ahead in wider for move in moves(book, ahead))
                self.assertIs(is_closed(book, wish, wider), not broken)
                self.assertIs(is_closed(book, wish, tuple(wider[::-1] + more)), not broken)
                key = (len(wider) > len(table), broken)
                told[key] = told.get(key, 0) + 1
        self.assertEqual(len(told), 4)
        self.assertGreater(min(told.values()), 15)

    def move_breaks(self, wish, ahead, move):
        """[20], by a standing and a move alone."""
        spot, _, behind, rings, _ = move
        newest = spot in ("top", "newest")
        come = ahead[2] if spot == "newest" else ()
        if wish[0] == "stand":
            return (set(wish[1]) <= set(behind[2]) and not set(wish[2]) & set(behind[2])
                    and behind[0] not in wish[3])
        if wish[0] == "quiet":
            return rings and newest and set(wish[1]) <= set(come)
        if wish[0] == "lower":
            return rings and not newest
        return rings and spot == "newest" and ahead[3]

    def test_a_further_standing_whose_moves_lead_out(self):
        table = closed(small(), LOWER)
        self.assertEqual(len(table), 2)
        self.assertIs(is_closed(small(), LOWER, table + [("y", "newest", ("s",), False)]), False)
        self.assertIs(is_closed(small(), LOWER, table + closure(small(), [("y", "newest", ("s",), False)])), True)

    def test_a_further_standing_whose_move_breaks(self):
        table = closed(small(), ("quiet", []))
        wider = table + closure(small(), [("y", "newest", ("s",), False)])
        self.assertIs(is_closed(small(), ("quiet", []), table), True)
        self.assertIs(is_closed(small(), ("quiet", []), wider), False)
        self.assertIs(is_closed(small(), ("quiet", ["s"]), wider), True)

    def test_for_stand_the_standings_to_which_no_move_leads_are_not_asked(self):
        wish = ("stand", [], [], ["x"])
        wider = closed(small(), wish) + closure(small(), [("y", "newest", ("s",), False)])
        self.assertIn(("y", "newest", ("s",), False), wider)
        self.assertIs(is_closed(small(), wish, wider), True)
        stays = Book(["x", "y"], ["s"], "x", {("x", "s", "newer"): ("x", True, False, 0)})
        wider = closed(stays, wish) + closure(stays, [("y", "newest", ("s",), False)])
        self.assertIs(is_closed(stays, wish, wider), False)
        self.assertIs(is_closed(stays, HOLDS, wider), True)

    def test_any_object(self):
        for at, thing in enumerate(any_objects() + [{standing: True for standing in self.table}, "none",
                                                    standings(self.book), [self.table], self.table[0]]):
            with self.subTest(at=at):
                self.assertIs(is_closed(self.book, LOWER, thing), False)

    def test_a_table_with_any_object(self):
        wrong = any_objects() + [list(self.table[0]), ("new", "newest", ["show"], True),
                                 ("new", "newest", ("show",), 1), ("none", "none", (), 0),
                                 ("none", "newest", ("show", "gone"), True), ("none", "newest", (), False),
                                 ("old", "newest", ("show",), True), self.table, (1, self.table[0])]
        for at, thing in enumerate(wrong):
            with self.subTest(at=at):
                self.assertIs(is_closed(self.book, LOWER, self.table + [thing]), False)
                self.assertIs(is_closed(self.book, LOWER, [thing] + self.table), False)

    def test_lists_and_numbers_do_not_stand_for_standings(self):
        self.assertIs(is_closed(self.book, LOWER, [list(standing) for standing in self.table]), False)
        self.assertIs(is_closed(self.book, LOWER, [standing[:3] + (int(standing[3]),) for standing in self.table]),
                      False)

    def test_the_table_of_another_wish_and_of_another_book(self):
        self.assertIs(is_closed(self.book, ONCE, self.table), True)
        self.assertIs(is_closed(self.book, ("quiet", []), self.table), False)
        self.assertIs(is_closed(self.book, ("quiet", ["seen"]), self.table), True)
        left = self.book.without([("none", "seen", "newer")])
        self.assertIs(is_closed(left, LOWER, self.table), False)


if __name__ == "__main__":
    unittest.main()
