"""[35]: slopes, which show that no ring has a greater mean."""

import copy
import unittest

from heldnotes.badges import is_slope, rates, slope
from heldnotes.books import Book
from heldnotes.errors import BadRate
from heldnotes.standings import standings
from tests.samples import any_objects, example_book, same_object, seeded, whole_book
from tests.slow import slow_is_slope
from tests.test_rings import books
from tests.test_worst import around, one_state


def not_rates():
    """Objects that are no rates, made anew at each call."""
    return any_objects() + [(0, 0), (1, -1), (True, 1), (0, True), (0,), (0, 1, 1), (None, 1), (1, None),
                            ("0", "1"), [[0, 1]], (0, (1,)), {0: 1, 1: 2}, "ab"]


def is_pair_of_integers(thing):
    """Whether one of the objects is a rate after all."""
    return isinstance(thing, (list, tuple)) and list(map(type, thing)) == [int, int] and thing[1] > 0


class SlopeTest(unittest.TestCase):

    def test_there_is_one_if_no_ring_has_a_greater_mean(self):
        for book in books(130, 150):
            told = rates(book)
            if told is None:
                continue
            above, below = told[1]
            for rate in ((above, below), (above * 7, below * 7), (above + 1, below), (above * 9 + 1, below * 9),
                         (10 ** 12 - 1, 1), [above, below]):
                made = slope(book, rate)
                self.assertTrue(slow_is_slope(book, made, *rate))
                self.assertIs(is_slope(book, made, rate), True)
            for rate in ((above - 1, below), (above * 9 - 1, below * 9), (-10 ** 12 + 1, 1),
                         (above * 10 ** 11 - 1, below * 10 ** 11)):
                self.assertIsNone(slope(book, rate))

    def test_for_each_rate_if_there_is_no_ring(self):
        book = whole_book(("x", "y"), ("s", "t"))
        for rate in ((0, 1), (-10 ** 12 + 1, 1), (10 ** 12 - 1, 10 ** 12 - 1), (-1, 10 ** 12 - 1)):
            self.assertTrue(slow_is_slope(book, slope(book, rate), *rate))

    def test_it_tells_of_just_the_standings_of_all_rows(self):
        for book in books(131, 60):
            made = slope(book, (9 * 4 + 99, 1))
            self.assertIs(type(made), dict)
            self.assertEqual(sorted(made), sorted(standing for _, standing in standings(book)))
            for standing in made:
                self.assertEqual([type(part) for part in (standing,) + standing], [tuple, str, str, tuple, bool])
                self.assertIs(type(made[standing]), int)

    def test_a_book_by_hand(self):
        book = around(0, 3)
        self.assertIsNone(slope(book, (1, 1)))
        self.assertIsNone(slope(book, (149, 100)))
        made = slope(book, (3, 2))
        for place in [standing for standing in made if standing[0] == "a" and standing[2]]:
            for other in [standing for standing in made if standing[0] == "b"]:
                # 0 from a, and 6 to it, are at most 3 and the rise: so they rise by -3 and 3.
                self.assertEqual(made[other] - made[place], -3)
        self.assertTrue(slow_is_slope(book, made, 3, 2))

    def test_it_is_new_each_time(self):
        book = around(0, 3)
        made = slope(book, (3, 2))
        kept = copy.deepcopy(made)
        made.clear()
        self.assertEqual(slope(book, (3, 2)), kept)
        rate = [3, 2]
        self.assertEqual(slope(book, rate), kept)
        self.assertEqual(rate, [3, 2])

    def test_rates_that_are_none(self):
        for at, thing in enumerate(not_rates()):
            if is_pair_of_integers(thing):
                continue
            with self.subTest(at=at), self.assertRaises(BadRate) as caught:
                slope(example_book(), thing)
            self.assertTrue(same_object(caught.exception.rate, thing))


class IsSlopeTest(unittest.TestCase):

    def test_a_standing_less_or_more(self):
        for book in books(132, 40) + [around(0, 3)]:
            rate = (rates(book) or (0, (5, 1)))[1]
            made = slope(book, rate)
            for standing in list(made)[:5]:
                less = {key: made[key] for key in made if key != standing}
                self.assertIs(is_slope(book, less, rate), False)
                # Another thing in its place, or beside it.
                for other in (("zz",) + standing[1:], standing[:3] + (1,), list(standing)[0], None, (), standing[:3],
                              standing + (True,), standing[:3] + ("x",)):
                    if other not in less:
                        told = {**less, other: made[standing]}
                        self.assertIs(is_slope(book, told, rate), False)
                        if other not in made:
                            self.assertIs(is_slope(book, {**made, other: 0}, rate), False)
            self.assertIs(is_slope(book, {}, rate), False)

    def test_more_standings_that_have_the_form(self):
        rows = {("x", "s", "newer"): ("x", False, False, 1)}
        book = Book(["x", "y"], ["s"], "x", rows)
        made = slope(book, (1, 1))
        for standing in (("y", "none", ("s",), False), ("x", "newest", ("s",), False), ("x", "none", ("s",), True)):
            self.assertIs(is_slope(book, {**made, standing: 0}, (1, 1)), False)
            # As many as there are, but this one in the place of another.
            for other in made:
                told = {key: made[key] for key in made if key != other}
                self.assertIs(is_slope(book, {**told, standing: made[other]}, (1, 1)), False)

    def test_truths_in_the_keys(self):
        book = one_state(1, 1, 1)
        made = slope(book, (1, 1))
        self.assertIs(is_slope(book, made, (1, 1)), True)
        # Such keys are the same to Python, but 0 does not stand for a truth in a standing.
        other = {standing[:3] + (int(standing[3]),): made[standing] for standing in made}
        self.assertEqual(other, made)
        self.assertIs(is_slope(book, other, (1, 1)), False)

    def test_truths_in_the_place_of_numbers(self):
        book = around(0, 0)
        made = {standing: 0 for _, standing in standings(book)}
        self.assertIs(is_slope(book, made, (0, 1)), True)
        for standing in made:
            for other in (False, None, "0", [0], (), {}):
                self.assertIs(is_slope(book, {**made, standing: other}, (0, 1)), False)
        self.assertIs(is_slope(book, {standing: True for standing in made}, (0, 1)), False)
        self.assertIs(is_slope(book, {standing: 1 for standing in made}, (0, 1)), True)

    def test_one_number_otherwise(self):
        told = {True: 0, False: 0}
        chance = seeded(133)
        for book in books(134, 60):
            rate = (rates(book) or (0, (5, 1)))[1]
            made = slope(book, rate)
            for standing in chance.sample(sorted(made), min(6, len(made))):
                for more in (1, -1, 10 ** 30, -10 ** 30):
                    other = {**made, standing: made[standing] + more}
                    answer = slow_is_slope(book, other, *rate)
                    self.assertIs(is_slope(book, other, rate), answer)
                    told[answer] += 1
        self.assertGreater(min(told.values()), 100, told)

    def test_great_numbers(self):
        for book in books(135, 30):
            rate = (rates(book) or (0, (5, 1)))[1]
            made = slope(book, rate)
            for more in (10 ** 30, -10 ** 400):
                self.assertIs(is_slope(book, {standing: made[standing] + more for standing in made}, rate), True)
            # Numbers that are a thousand times as great are a slope for the same rate so written.
            thousand = {standing: 1000 * made[standing] for standing in made}
            self.assertIs(is_slope(book, thousand, (1000 * rate[0], 1000 * rate[1])), True)

    def test_for_other_rates(self):
        for book in books(136, 40):
            above, below = (rates(book) or (0, (5, 1)))[1]
            made = slope(book, (above, below))
            self.assertIs(is_slope(book, made, (above + 1, below)), True)
            for rate in ((above - 1, below), (above, below + 1), (above * 2, below * 2), (above, 1), (0, 1)):
                self.assertIs(is_slope(book, made, rate), slow_is_slope(book, made, *rate))
            if rates(book) is not None:
                self.assertIs(is_slope(book, made, (above - 1, below)), False)

    def test_any_objects(self):
        book = around(0, 0)
        made = slope(book, (0, 1))
        self.assertIs(is_slope(book, made, [0, 1]), True)
        for thing in any_objects() + [list(made), list(made.items()), [made], {None: 0}, {1: 1}, {"a": []}]:
            self.assertIs(is_slope(book, thing, (0, 1)), False)
            self.assertIs(is_slope(book, thing, None), False)
        for thing in not_rates():
            if not is_pair_of_integers(thing):
                self.assertIs(is_slope(book, made, thing), False)
                self.assertIs(is_slope(book, None, thing), False)

    def test_what_is_passed_stays(self):
        book = around(0, 0)
        made = slope(book, (0, 1))
        kept = copy.deepcopy(made)
        is_slope(book, made, (0, 1))
        self.assertEqual(made, kept)


if __name__ == "__main__":
    unittest.main()
