"""[33], [34], [36]: rings of moves, and their means."""

import copy
import unittest
from math import gcd

from heldnotes.badges import is_ring, rates, ring, seldom, slope, worst
from heldnotes.books import Book
from heldnotes.standings import moves, standings
from tests.samples import AGES, any_objects, example_book, mild_book, random_book, right_book, seeded, whole_book
from tests.slow import all_changes, change_of, slow_is_ring
from tests.test_worst import around, one_state


def changes_along(book, told):
    """The changes of the error along a ring."""
    return [change_of(book, ahead[2], move) for ahead, move in zip([told[-1]] + told, told)]


def books(seed, many):
    """Books of all kinds."""
    chance = seeded(seed)
    return [chance.choice([random_book, mild_book, mild_book, right_book])(chance) for _ in range(many)]


class RatesTest(unittest.TestCase):

    def test_no_ring(self):
        for book in (whole_book(), whole_book(("x", "y", "z", "w"), ("s", "t", "u"))):
            self.assertIsNone(rates(book))
            self.assertIsNone(ring(book))
            self.assertIsNone(ring(book, high=False))
        # From a all letters lead to b by a step; from b all lead back by a whole.
        rows = {("a", "s", age): ("b", True, False, 5) for age in AGES}
        rows.update({("b", "s", age): ("a", True, False, "whole") for age in AGES})
        self.assertIsNone(rates(Book(["a", "b"], ["s"], "a", rows)))

    def test_no_ring_by_chance(self):
        chance = seeded(110)
        none = 0
        for _ in range(300):
            states, sorts = ["a", "b", "c", "d"][:chance.randint(1, 4)], ["s", "t"][:chance.randint(1, 2)]
            rows = {}
            for at, state in enumerate(states):
                for sort in sorts:
                    for age in AGES:
                        to = chance.randint(0, len(states) - 1)
                        step = chance.randint(-9, 9) if to > at else "whole"
                        # With a chance there is a way back that is none.
                        step = 1 if to < at and chance.random() < 0.1 else step
                        rows[(state, sort, age)] = (states[to], chance.random() < 0.5, False, step)
            book = Book(states, sorts, "a", rows)
            told = rates(book)
            none += told is None
            self.assertIs(ring(book) is None, told is None)
            self.assertIs(slope(book, (-10 ** 12, 1)) is None, told is not None)
        self.assertTrue(100 < none < 290, none)

    def test_means_of_zero(self):
        for book in (example_book(), Book(["x"], ["s"], "x", {}), around(3, -3), around(0, 9, -4, -5)):
            self.assertEqual(rates(book), ((0, 1), (0, 1)))

    def test_means_that_are_no_integers(self):
        self.assertEqual(rates(around(0, 0, 0, 1)), ((1, 4), (1, 4)))
        self.assertEqual(rates(around(-1, 0, -1, 0)), ((-1, 2), (-1, 2)))
        self.assertEqual(rates(around(0, -2, 0, -4)), ((-3, 2), (-3, 2)))
        self.assertEqual(rates(around(4, 3, 1)), ((8, 3), (8, 3)))
        self.assertEqual(rates(around(9, 9, 9)), ((9, 1), (9, 1)))

    def test_the_least_and_the_greatest(self):
        self.assertEqual(rates(one_state(1, -2, 7)), ((-2, 1), (7, 1)))
        self.assertEqual(rates(one_state("whole", -2, -7)), ((-7, 1), (-2, 1)))
        self.assertEqual(rates(one_state(4, "whole", "whole")), ((4, 1), (4, 1)))
        # Newer at x goes to y, and same there goes back: 5 less 4 in two letters, but only behind a newer one.
        rows = {("x", "s", "newer"): ("y", True, False, 5), ("x", "s", "same"): ("y", False, False, 5),
                ("x", "s", "elder"): ("x", False, False, "whole"), ("y", "s", "newer"): ("y", False, False, "whole"),
                ("y", "s", "same"): ("x", False, False, -4), ("y", "s", "elder"): ("x", False, False, -9)}
        book = Book(["x", "y"], ["s"], "x", rows)
        self.assertEqual(rates(book), ((-2, 1), (1, 2)))

    def test_worths_count_along_a_ring_only_where_wholes_cut_it(self):
        rows = around(1, 2, -4).rows()
        book = Book(["a", "b", "c"], ["s"], "b", rows, worths={"a": 9, "b": -9, "c": 2})
        self.assertEqual(rates(book), ((-1, 3), (-1, 3)))

    def test_states_to_which_no_row_comes_do_not_count(self):
        rows = {("y", "s", age): ("y", False, False, 9) for age in AGES}
        rows.update({("x", "s", age): ("x", False, False, -1) for age in AGES})
        self.assertEqual(rates(Book(["x", "y"], ["s"], "x", rows)), ((-1, 1), (-1, 1)))

    def test_places_to_which_no_row_comes_do_not_count(self):
        # Nothing is ever held, so that no letter is elder or the same.
        rows = {("x", "s", "elder"): ("x", True, False, 9), ("x", "s", "same"): ("x", True, False, -9)}
        self.assertEqual(rates(Book(["x"], ["s"], "x", rows)), ((0, 1), (0, 1)))

    def test_kinds_and_lowest_terms(self):
        for book in books(111, 100):
            told = rates(book)
            if told is None:
                continue
            self.assertEqual([type(part) for part in (told,) + told + told[0] + told[1]], [tuple] * 3 + [int] * 4)
            for above, below in told:
                self.assertGreater(below, 0)
                self.assertEqual(gcd(above, below), 1)

    def test_no_ring_has_another_mean(self):
        # Numbers along which each change rises by at most the mean show that no ring has a greater one.
        for book in books(112, 120):
            told = rates(book)
            made = [(ahead, move[2], change) for ahead, move, change in all_changes(book) if change is not None]
            if told is None:
                continue
            for sign, (above, below) in ((-1, told[0]), (1, told[1])):
                numbers = {ahead: 0 for _, ahead in standings(book)}
                for _ in range(len(numbers) + 1):
                    raised = False
                    for ahead, behind, change in made:
                        least = numbers[ahead] + sign * (below * change - above)
                        if least > numbers[behind]:
                            numbers[behind], raised = least, True
                    if not raised:
                        break
                self.assertFalse(raised)

    def test_all_rings_of_few_moves_lie_between(self):
        for book in books(113, 25):
            told = rates(book)
            for _, start in standings(book)[:40]:
                ends = [(start, 0)]
                for many in range(1, 4):
                    ends = list({(move[2], total + change) for ahead, total in ends for move in moves(book, ahead)
                                 if (change := change_of(book, ahead, move)) is not None})
                    for behind, total in ends:
                        if behind == start:
                            self.assertGreaterEqual(total * told[0][1], told[0][0] * many)
                            self.assertLessEqual(total * told[1][1], told[1][0] * many)


class RingTest(unittest.TestCase):

    def test_rings_have_the_least_and_the_greatest_mean(self):
        lengths = {}
        for book in books(114, 200):
            told = rates(book)
            for high in (True, False):
                made = ring(book, high)
                self.assertIs(made is None, told is None)
                if made is None:
                    continue
                above, below = told[high]
                lengths[len(made)] = lengths.get(len(made), 0) + 1
                self.assertTrue(slow_is_ring(book, made, above, below))
                self.assertIs(is_ring(book, made, (above, below)), True)
                self.assertEqual(sum(changes_along(book, made)) * below, above * len(made))
        for many in (1, 2, 3):
            self.assertGreater(lengths.get(many, 0), 1, lengths)

    def test_high_left_out(self):
        book = one_state(1, -2, 7)
        self.assertEqual(ring(book), ring(book, True))
        self.assertEqual(ring(book, high=True), ring(book, True))
        self.assertEqual(ring(book, high=False), ring(book, False))
        self.assertEqual(changes_along(book, ring(book)), [7])
        self.assertEqual(changes_along(book, ring(book, False)), [-2])

    def test_a_ring_of_four(self):
        self.assertEqual(sorted(changes_along(around(0, 3, 0, 1), ring(around(0, 3, 0, 1)))), [0, 0, 1, 3])

    def test_a_ring_around_more_standings_than_states(self):
        # Letters of the newest number come one sort behind the other, and then a new one.
        rows = {("x", sort, age): ("x", age == "newer", False, "whole") for sort in ("s", "t") for age in AGES}
        rows[("x", "s", "newer")] = ("y", True, False, 1)
        rows.update({("y", sort, age): ("y", False, False, "whole") for sort in ("s", "t") for age in AGES})
        rows[("y", "t", "same")] = ("x", False, False, 1)
        book = Book(["x", "y"], ["s", "t"], "x", rows)
        self.assertEqual(rates(book), ((1, 1), (1, 1)))
        for high in (True, False):
            self.assertTrue(slow_is_ring(book, ring(book, high), 1, 1))

    def test_kinds_and_newness(self):
        for book in books(115, 40):
            made = ring(book)
            if made is None:
                continue
            self.assertIs(type(made), list)
            for move in made:
                self.assertIn(move, moves(book, made[made.index(move) - 1][2]))
                self.assertEqual([type(part) for part in (move,) + move[:4]], [tuple, str, str, tuple, bool])
                self.assertIs(type(move[4]), int)
            kept = copy.deepcopy(made)
            made.clear()
            self.assertEqual(ring(book), kept)


class IsRingTest(unittest.TestCase):

    def rings(self, seed, many):
        """Triples of a book, a ring and its mean, with rings of more than one move among them."""
        told = []
        for book in books(seed, many) + [around(0, 3, 0, 1), around(1, -1), one_state(1, 2, 3)]:
            for high in (True, False):
                if ring(book, high) is not None:
                    told.append((book, ring(book, high), rates(book)[high]))
        return told

    def test_turned_and_gone_twice_and_as_tuples(self):
        for book, made, (above, below) in self.rings(116, 40):
            for at in range(len(made)):
                turned = made[at:] + made[:at]
                for thing in (turned, tuple(turned), turned + turned, tuple(turned * 3)):
                    self.assertIs(is_ring(book, thing, (above, below)), True)
            self.assertIs(is_ring(book, made, [above, below]), True)

    def test_rates_not_in_lowest_terms_and_other_rates(self):
        for book, made, (above, below) in self.rings(117, 40):
            for many in (2, 3, 10 ** 12):
                self.assertIs(is_ring(book, made, (above * many, below * many)), True)
            for rate in ((above + 1, below), (above - 1, below), (above * 5 + 1, below * 5)):
                self.assertIs(is_ring(book, made, rate), False)
            if above != 0:
                self.assertIs(is_ring(book, made, (-above, below)), False)
                self.assertIs(is_ring(book, made, (above, below + 1)), False)

    def test_rates_that_are_none(self):
        book, made = around(0, 0), ring(around(0, 0))
        self.assertIs(is_ring(book, made, (0, 1)), True)
        for rate in ((0, 0), (0, -1), (False, 1), (0, True), (0,), (0, 1, 1), [], 0, "01", None, {0: 1}, ((0, 1),),
                     (None, 1), (0, None), ("0", 1)):
            self.assertIs(is_ring(book, made, rate), False)
        for thing in any_objects():
            self.assertIs(is_ring(book, made, thing), False)

    def test_a_ring_of_no_greatest_mean_is_one(self):
        book = one_state(1, -2, 7)
        below, newest, top = moves(book, ("x", "newest", ("s",), False))
        self.assertEqual([below[0], newest[0], top[0]], ["below", "newest", "top"])
        self.assertIs(is_ring(book, [newest], (-2, 1)), True)
        self.assertIs(is_ring(book, [top], (1, 1)), True)
        self.assertIs(is_ring(book, [newest, top, top], (0, 3)), True)
        self.assertIs(is_ring(book, [newest, top], (-1, 2)), True)
        # A letter below leads to the place lower, where there is the same move.
        self.assertIs(is_ring(book, [below], (7, 1)), True)
        self.assertIs(is_ring(book, [below, top], (4, 1)), True)
        self.assertIs(is_ring(book, [newest, below], (5, 2)), False)

    def test_a_move_taken_out_or_changed(self):
        wrong = 0
        chance = seeded(118)
        for book, made, rate in self.rings(119, 40):
            at = chance.randint(0, len(made) - 1)
            move = made[at]
            spoiled = [made[:at] + made[at + 1:], made[:at] + [list(move)] + made[at + 1:],
                       made[:at] + [move[:4]] + made[at + 1:], made[:at] + [move + (0,)] + made[at + 1:],
                       made + [None], [made], made + [()], [move[2]]]
            for part, others in ((0, ["top", "below", "held", "newest", "between", "", 1, None]),
                                 (1, ["s", "t", "u", "v", None, 0]),
                                 (2, [behind for _, behind in standings(book)[:6]] + [list(move[2]), None, "x"]),
                                 (2, [move[2][:3] + (int(move[2][3]),), move[2][:2] + (list(move[2][2]),) + move[2][3:]]),
                                 (3, [not move[3], int(move[3]), None, "whole"]),
                                 (4, [move[4] + 1, move[4] - 1, -move[4], "whole", True, False, None, str(move[4])])):
                for other in others:
                    spoiled.append(made[:at] + [move[:part] + (other,) + move[part + 1:]] + made[at + 1:])
            for thing in spoiled:
                told = is_ring(book, thing, rate)
                self.assertIs(told, slow_is_ring(book, thing, *rate))
                wrong += not told
        self.assertGreater(wrong, 1000)

    def test_truths_do_not_stand_for_numbers_nor_numbers_for_truths(self):
        book = one_state(1, 0, 0)
        start = ("x", "newest", ("s",), False)
        self.assertIs(is_ring(book, [("top", "s", start, False, 1)], (1, 1)), True)
        self.assertIs(is_ring(book, [("top", "s", start, False, True)], (1, 1)), False)
        self.assertIs(is_ring(book, [("top", "s", start, 0, 1)], (1, 1)), False)
        self.assertIs(is_ring(book, [("top", "s", start[:3] + (0,), False, 1)], (1, 1)), False)
        self.assertIs(is_ring(book, [("newest", "s", start, False, 0)], (0, 1)), True)
        self.assertIs(is_ring(book, [("newest", "s", start, False, False)], (0, 1)), False)

    def test_a_whole_put_in(self):
        book = one_state(1, "whole", 0)
        start = ("x", "newest", ("s",), False)
        top = ("top", "s", start, False, 1)
        whole = ("newest", "s", start, False, "whole")
        self.assertIn(whole, moves(book, start))
        self.assertIs(is_ring(book, [top, top], (1, 1)), True)
        for thing in ([top, whole], [whole, top], [whole], [top, whole, top]):
            for rate in ((1, 1), (1, 2), (0, 1), (2, 3)):
                self.assertIs(is_ring(book, thing, rate), False)

    def test_moves_at_standings_to_which_no_row_leads(self):
        rows = {("x", "s", age): ("x", True, False, 1) for age in AGES}
        rows.update({("y", "s", age): ("y", True, False, 2) for age in AGES})
        book = Book(["x", "y"], ["s"], "x", rows)
        start = ("y", "newest", ("s",), False)
        thing = [move for move in moves(book, start) if move[2] == start][:1]
        self.assertEqual(thing[0][4], 2)
        self.assertIs(is_ring(book, thing, (2, 1)), False)
        self.assertIs(is_ring(Book(["x", "y"], ["s"], "y", rows), thing, (2, 1)), True)
        # Nothing rings here.
        for start in (("x", "newest", ("s",), True), ("x", "lower", ("s",), True)):
            for move in moves(book, start):
                self.assertIs(is_ring(book, [move], (1, 1)), not move[2][3])

    def test_moves_that_do_not_follow_one_another(self):
        book = around(1, 1)
        first, second = ring(book)
        self.assertIs(is_ring(book, [first, second], (1, 1)), True)
        for thing in ([first], [second], [first, first], [first, second, first], [first, first, second, second]):
            self.assertIs(is_ring(book, thing, (1, 1)), False)

    def test_the_empty_list_and_any_objects(self):
        for book in (around(0, 0), example_book(), whole_book()):
            for thing in [[], ()] + any_objects() + [[thing] for thing in any_objects()]:
                for rate in ((0, 1), (1, 1), None, [0, 1]):
                    self.assertIs(is_ring(book, thing, rate), False)
        for thing in any_objects():
            made = ring(example_book())
            self.assertIs(is_ring(example_book(), made + [thing], (0, 1)), False)
            self.assertIs(is_ring(example_book(), [thing] + made, (0, 1)), False)
            self.assertIs(is_ring(example_book(), made, thing), False)

    def test_what_is_passed_stays(self):
        book, made = around(1, 2), ring(around(1, 2))
        kept = copy.deepcopy(made)
        rate = [3, 2]
        self.assertIs(is_ring(book, made, rate), True)
        self.assertEqual((made, rate), (kept, [3, 2]))


class FactTest(unittest.TestCase):
    """[36]"""

    def test_the_error_has_no_greatest_value_if_a_mean_is_above_0(self):
        told = {True: 0, False: 0}
        for book in books(120, 150):
            high = (rates(book) or ((0, 1), (0, 1)))[1]
            climbs = high[0] > 0
            told[climbs] += 1
            # Without such a ring no row is worse than one that comes to no state and place twice.
            self.assertIs(worst(book, 60)[1] > worst(book, 13)[1], climbs)
            if climbs:
                for bound in (0, 6, 12):
                    self.assertIsInstance(seldom(book, bound), int)
        self.assertGreater(min(told.values()), 20)


if __name__ == "__main__":
    unittest.main()
