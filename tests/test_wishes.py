"""[19] to [21], [23]: wishes, rows that break them, and the wishes that some row breaks."""

import unittest

from heldnotes.books import Book
from heldnotes.errors import BadWish
from heldnotes.standings import row_to, standings
from heldnotes.wishes import breaks, broken, closed, is_break, is_closed, least_idle
from tests.samples import (any_objects, deep, example_book, random_book, random_wish, same_object, seeded)
from tests.slow import roomy, rows_of, shorter_rows, slow_is_break, slow_moves

LOWER, ONCE = ("lower",), ("once",)


def always():
    """A book of one state that rings at every letter; s is held, t is not."""
    return Book(["x"], ["s", "t"], "x", {("x", sort, age): ("x", sort == "s", True, 0)
                                         for sort in ("s", "t") for age in ("newer", "same", "elder")})


def not_wishes(states, sorts):
    """Objects that are no wishes of a book with these words, made anew at each call."""
    told = any_objects() + [
        "stand", "lower", "once", ("stand",), ("quiet",), ("quit",), ("Lower",), ("lower", []), ("once", []),
        ("lower", "once"), (("lower",),), [["once"]], ("",), (None,), (True,), ((),), ([],), ({},),
        ("quiet", [], []), ("stand", [], []), ("stand", [], [], [], []), ("quiet", "s"), ("quiet", None),
        ("quiet", {}), ("quiet", {sorts[0]: 1}), ("quiet", sorts[0]), ("quiet", sorts, sorts),
        ("stand", [], [], None), ("stand", None, [], []), ("stand", [], 0, []), ("stand", [], [], {states[0]: 1}),
        ("stand", [], [], states[0]), ("stand", sorts[0], [], []), {"lower": 1}, {0: "lower"}, deep(9)]
    for word in any_objects() + ["zzz"]:
        if word not in sorts:
            told += [("quiet", [word]), ["quiet", (sorts[0], word)], ("stand", [word], [], []),
                     ("stand", [], [sorts[0], word, sorts[0]], list(states))]
        if word not in states:
            told.append(("stand", [], [], [states[0], word]))
    told += [("quiet", [states[0]]), ("stand", [states[0]], [], []), ("stand", [], [states[0]], []),
             ("stand", [], [], [sorts[0]])]
    return told


class IsBreakTest(unittest.TestCase):

    def test_the_empty_row_breaks_none(self):
        for wish in (("stand", [], [], []), ("quiet", []), LOWER, ONCE):
            for row in ([], ()):
                self.assertIs(is_break(always(), wish, row), False)

    def test_stand(self):
        book = example_book()
        told = [
            (([], [], []), [("show", 1)], True),
            (([], [], ["new"]), [("show", 1)], False),
            (([], [], ["new"]), [("show", 1), ("seen", 1)], True),
            ((["show"], [], ["read"]), [("show", 1)], True),
            ((["show", "seen"], [], ["new"]), [("show", 1)], False),
            ((["show", "seen"], [], ["new"]), [("show", 1), ("seen", 1)], True),
            ((["show"], ["seen"], ["new"]), [("show", 1), ("seen", 1)], False),
            (([], ["show"], ["new"]), [("show", 1)], False),
            (([], ["show"], ["none"]), [("show", 1), ("seen", 2)], True),
            (([], ["show"], ["none", "read"]), [("show", 1), ("seen", 2)], False),
            (([], ["gone", "seen"], ["none"]), [("show", 1), ("seen", 2)], False),
            ((["show"], ["show"], []), [("show", 1)], False),
            ((["show", "show"], [], ["read", "read"]), [("show", 1)], True),
            ((["show", "show"], [], ["new", "new"]), [("show", 1)], False),
            (([], [], ["new"]), [("show", 1), ("seen", 1), ("show", 2)], False),
            (([], [], ["new"]), [("show", 2), ("seen", 1)], False),
            ((["seen"], [], ["read"]), [("show", 2), ("seen", 1)], False),
        ]
        for parts, row, breaking in told:
            self.assertIs(is_break(book, ("stand",) + parts, row), breaking, (parts, row))

    def test_stand_is_asked_behind_letters_below_the_newest_too(self):
        book = Book(["x", "y"], ["s"], "x", {("x", "s", "newer"): ("x", True, False, 0),
                                             ("x", "s", "elder"): ("y", False, False, 0)})
        self.assertIs(is_break(book, ("stand", ["s"], [], ["x"]), [("s", 2)]), False)
        self.assertIs(is_break(book, ("stand", ["s"], [], ["x"]), [("s", 2), ("s", 1)]), True)

    def test_quiet(self):
        told = [
            ([], [("s", 1)], True),
            ([], [("s", 1), ("t", 2)], True),
            ([], [("s", 1), ("t", 1)], True),
            ([], [("s", 1), ("t", 0)], False),
            (["s"], [("s", 1)], False),
            (["s"], [("s", 1), ("s", 1)], True),
            (["s"], [("s", 1), ("t", 1)], True),
            (["s"], [("s", 1), ("t", 2)], False),
            (["s"], [("s", 1), ("t", 0)], False),
            (["t"], [("s", 1), ("t", 1)], False),
            (["t"], [("s", 1), ("t", 1), ("s", 1)], True),
            (["s", "t"], [("s", 1), ("t", 1)], False),
            (["s", "t", "s"], [("s", 1), ("t", 1), ("t", 1)], True),
            (["s", "t"], [("s", 1), ("t", 2), ("s", 2)], False),
            (["s", "t"], [("t", 2), ("s", 1), ("t", 2)], False),
            (["s", "t"], [("t", 2), ("s", 2), ("s", 1)], False),
        ]
        for come, row, breaking in told:
            self.assertIs(is_break(always(), ("quiet", come), row), breaking, (come, row))

    def test_lower(self):
        told = [([("s", 1)], False), ([("s", 1), ("s", 1)], False), ([("s", 1), ("s", 0)], True),
                ([("s", 1), ("t", 3), ("t", 2)], True), ([("s", 1), ("t", 3), ("t", 1)], True),
                ([("s", 1), ("t", 3), ("t", 0)], True), ([("t", 2), ("t", 1)], True),
                ([("s", 1), ("s", 0), ("s", 1)], False), ([("s", 1), ("s", 0), ("s", 2)], False)]
        for row, breaking in told:
            self.assertIs(is_break(always(), LOWER, row), breaking, row)

    def test_once(self):
        told = [([("s", 1)], False), ([("s", 1), ("s", 1)], True), ([("s", 1), ("t", 1)], True),
                ([("s", 1), ("t", 2)], False), ([("s", 1), ("t", 2), ("t", 2)], True),
                ([("s", 1), ("t", 2), ("s", 1)], False), ([("s", 2), ("t", 1), ("s", 2)], True),
                ([("s", 2), ("t", 1), ("s", 1)], False), ([("s", 2), ("t", 1), ("t", 1)], False)]
        for row, breaking in told:
            self.assertIs(is_break(always(), ONCE, row), breaking, row)

    def test_once_asks_for_rings_and_not_for_letters(self):
        book = Book(["x", "y"], ["s", "t"], "x", {("x", "s", "newer"): ("x", True, False, 0),
                                                  ("x", "t", "newer"): ("y", True, True, 0),
                                                  ("x", "t", "same"): ("x", True, True, 0),
                                                  ("y", "s", "same"): ("x", True, False, 0)})
        self.assertIs(is_break(book, ONCE, [("s", 1), ("t", 1)]), False)
        self.assertIs(is_break(book, ONCE, [("s", 1), ("t", 1), ("s", 1)]), False)
        self.assertIs(is_break(book, ONCE, [("s", 1), ("t", 1), ("t", 1)]), True)
        self.assertIs(is_break(book, ONCE, [("t", 1), ("s", 1), ("t", 1)]), True)

    def test_no_ring_breaks_none_of_the_others(self):
        book = Book(["x"], ["s"], "x", {("x", "s", "newer"): ("x", True, False, 0)})
        for wish in (("quiet", []), ("quiet", ["s"]), LOWER, ONCE):
            for many in range(5):
                for row in rows_of(["s"], many):
                    self.assertIs(is_break(book, wish, row), False)

    def test_earlier_letters_do_not_matter(self):
        self.assertIs(is_break(always(), LOWER, [("s", 1), ("s", 0), ("s", 2)]), False)
        self.assertIs(is_break(always(), LOWER, [("s", 1), ("s", 0), ("s", 0)]), True)
        self.assertIs(is_break(example_book(), ("stand", [], [], ["read"]), [("show", 1), ("seen", 1)]), False)

    def test_any_object_that_is_no_row(self):
        wrong = any_objects() + [[("s",)], [("s", 1, 1)], [("u", 1)], [("x", 1)], [("s", True)], [("s", None)],
                                 [("s", 1), ("s", 1), 7], ("s", 1), {("s", 1): 1}, "s", [["s", [1]]], [[["s"], 1]]]
        for at, thing in enumerate(wrong):
            if thing == [] or thing == ():
                continue
            for wish in (("stand", [], [], []), ("quiet", []), LOWER, ONCE):
                with self.subTest(at=at):
                    self.assertIs(is_break(always(), wish, thing), False)

    def test_lists_and_tuples(self):
        for wish in (("stand", ["s"], ["t"], []), ["stand", ("s",), ("t",), ()], ["quiet", []], ("quiet", ()),
                     ["once"], ["lower"]):
            for row in ([("s", 1)], (["s", 1],), [["s", 1]]):
                self.assertIs(is_break(always(), wish, row), wish[0] in ("stand", "quiet"))

    def test_short_and_long_rows_by_chance(self):
        chance = seeded(40)
        seen = {}
        for _ in range(150):
            book = random_book(chance)
            rows = list(rows_of(book.sorts(), 3)) if len(book.sorts()) < 3 else list(rows_of(book.sorts(), 2))
            rows += [[(chance.choice(book.sorts()), chance.randint(0, 3)) for _ in range(chance.randint(4, 40))]
                     for _ in range(20)]
            for wish in [random_wish(chance, book) for _ in range(3)]:
                for row in rows:
                    told = is_break(book, wish, row)
                    self.assertIs(told, slow_is_break(book, wish, row))
                    seen[(wish[0], told)] = seen.get((wish[0], told), 0) + 1
        self.assertEqual(len(seen), 8)
        self.assertGreater(min(seen.values()), 100)


class BadWishTest(unittest.TestCase):

    def refused(self, wish, called):
        with self.assertRaises(BadWish) as caught:
            called()
        self.assertTrue(same_object(caught.exception.wish, wish))

    def test_wishes_of_any_kind(self):
        book = Book(["x", "y"], ["s", "t"], "x", {("x", "s", "newer"): ("y", True, True, 0)})
        for at, wish in enumerate(not_wishes(["x", "y"], ["s", "t"])):
            with self.subTest(at=at):
                self.refused(wish, lambda: is_break(book, wish, []))
                self.refused(wish, lambda: breaks(book, wish))
                self.refused(wish, lambda: closed(book, wish))
                self.refused(wish, lambda: is_closed(book, wish, []))
                self.refused(wish, lambda: broken(book, [ONCE, wish]))
                self.refused(wish, lambda: least_idle(book, [wish], []))

    def test_it_comes_ahead_of_all_else(self):
        for thing in (None, 7, [("u", 1)], {}, [None]):
            self.refused("lower", lambda: is_break(always(), "lower", thing))
            self.refused(("quiet", ["u"]), lambda: is_closed(always(), ("quiet", ["u"]), thing))

    def test_the_first_one_of_a_list(self):
        self.refused(("quiet",), lambda: broken(always(), [LOWER, ("quiet",), ONCE, None]))
        self.refused(None, lambda: broken(always(), (None, ("quiet",))))

    def test_wishes_that_are_no_list(self):
        for at, thing in enumerate(any_objects() + ["once", {("once",): 1}]):
            if not isinstance(thing, (list, tuple)):
                with self.subTest(at=at):
                    self.refused(thing, lambda: broken(always(), thing))
                    self.refused(thing, lambda: least_idle(always(), thing, None))

    def test_words_of_another_book(self):
        wish = ("stand", ["gone"], [], ["none"])
        self.assertIs(is_break(example_book(), wish, []), False)
        self.refused(wish, lambda: is_break(always(), wish, []))

    def test_words_twice_in_both_lists_or_not_at_all(self):
        told = [(("stand", ["s", "s"], ["s", "t", "t"], ["x", "x", "x"]), 0), (("stand", [], [], []), 1),
                (("stand", ["t", "t", "s"], [], []), 2), (("quiet", ["t", "t", "s", "t", "s"]), 3),
                (("stand", (), (), ("x",)), 0)]
        for wish, many in told:
            self.assertIs(is_break(always(), wish, []), False)
            self.assertEqual(len(breaks(always(), wish) or []), many)


class BreaksTest(unittest.TestCase):

    def test_a_break_at_the_first_letter(self):
        self.assertEqual(len(breaks(always(), ("quiet", []))), 1)
        self.assertEqual(breaks(Book(["x"], ["s"], "x", {}), ("stand", [], [], [])), [("s", 1)])

    def test_none(self):
        self.assertIsNone(breaks(always(), ("stand", [], [], ["x"])))
        self.assertIsNone(breaks(always(), ("stand", ["s"], ["s"], [])))
        self.assertIsNone(breaks(example_book(), LOWER))

    def test_a_number_between(self):
        # Only a letter newer than the held one and below the newest rings.
        book = Book(["x", "y"], ["s", "t"], "x", {("x", "s", "newer"): ("y", True, False, 0),
                                                  ("y", "t", "newer"): ("y", False, True, 0)})
        row = breaks(book, LOWER)
        self.assertEqual(len(row), 3)
        self.assertTrue(slow_is_break(book, LOWER, row))

    def test_rows_break_and_no_shorter_row_does(self):
        chance = seeded(41)
        lengths = {}
        for _ in range(150):
            book = random_book(chance)
            for wish in [random_wish(chance, book) for _ in range(3)]:
                row = breaks(book, wish)
                if row is None:
                    lengths[0] = lengths.get(0, 0) + 1
                    longest = 4 if len(book.sorts()) == 1 else 3
                    self.assertFalse(any(slow_is_break(book, wish, other)
                                         for other in shorter_rows(book.sorts(), longest)))
                    continue
                lengths[len(row)] = lengths.get(len(row), 0) + 1
                self.assertTrue(slow_is_break(book, wish, row))
                self.assertIs(is_break(book, wish, row), True)
                if len(row) <= (5 if len(book.sorts()) < 3 else 4):
                    for shorter in shorter_rows(book.sorts(), len(row)):
                        self.assertFalse(slow_is_break(book, wish, shorter))
        for many in (0, 1, 2, 3, 4):
            self.assertGreater(lengths.get(many, 0), 1, lengths)

    def test_none_is_told_only_if_no_move_breaks(self):
        chance = seeded(42)
        kept = 0
        for _ in range(60):
            book = random_book(chance)
            wish = random_wish(chance, book)
            if breaks(book, wish) is not None:
                continue
            kept += 1
            for _, standing in standings(book):
                for longer in slow_moves(book, roomy(row_to(book, standing))):
                    self.assertFalse(slow_is_break(book, wish, longer))
        self.assertGreater(kept, 5)

    def test_kinds_and_digits(self):
        row = breaks(always(), ONCE)
        self.assertIs(type(row), list)
        for letter in row:
            self.assertEqual([type(part) for part in (letter,) + letter], [tuple, str, int])
            self.assertLess(abs(letter[1]), 10 ** 9)

    def test_it_is_new_each_time(self):
        book = always()
        row = breaks(book, LOWER)
        row.clear()
        self.assertEqual(len(breaks(book, LOWER)), 2)


class BrokenTest(unittest.TestCase):

    def test_in_their_order_each_as_often_as_it_stands(self):
        wishes = [ONCE, ("stand", [], [], ["x"]), LOWER, ("quiet", ["s", "s"]), ["once"], ONCE]
        self.assertEqual(broken(always(), wishes), [ONCE, LOWER, ("quiet", ["s", "s"]), ONCE, ONCE])
        self.assertEqual(broken(always(), tuple(reversed(wishes))), [ONCE, ONCE, ("quiet", ["s", "s"]), LOWER, ONCE])

    def test_none_and_none_broken(self):
        self.assertEqual(broken(always(), []), [])
        self.assertEqual(broken(always(), ()), [])
        self.assertEqual(broken(example_book(), [LOWER, ONCE, ("stand", ["gone"], [], ["none"])]), [])

    def test_each_is_a_tuple_with_new_lists(self):
        come, lacking, states = ["s"], ("t", "t"), []
        wishes = [["stand", come, lacking, states], ["quiet", ()], ["lower"]]
        told = broken(always(), wishes)
        self.assertEqual(told, [("stand", ["s"], ["t", "t"], []), ("quiet", []), ("lower",)])
        self.assertEqual([[type(part) for part in wish] for wish in told],
                         [[str, list, list, list], [str, list], [str]])
        self.assertEqual([type(wish) for wish in [told] + told], [list, tuple, tuple, tuple])
        told[0][1].append("t")
        told[0][3].append("x")
        told.clear()
        self.assertEqual((come, states, len(wishes)), (["s"], [], 3))
        self.assertEqual(broken(always(), wishes)[0], ("stand", ["s"], ["t", "t"], []))

    def test_words_stay_in_their_order(self):
        book = Book(["x", "y"], ["s", "t"], "x", {})
        self.assertEqual(broken(book, [("stand", ["t", "s", "t"], [], ["y", "y"])]),
                         [("stand", ["t", "s", "t"], [], ["y", "y"])])

    def test_what_is_told_may_be_passed_on(self):
        told = broken(always(), [["quiet", ("s",)], ["once"]])
        self.assertEqual(broken(always(), told), told)
        self.assertEqual([len(breaks(always(), wish)) for wish in told], [2, 2])

    def test_those_that_some_row_breaks(self):
        chance = seeded(43)
        for _ in range(80):
            book = random_book(chance)
            wishes = [random_wish(chance, book) for _ in range(6)]
            self.assertEqual(broken(book, wishes), [wish for wish in wishes if breaks(book, wish) is not None])


if __name__ == "__main__":
    unittest.main()
