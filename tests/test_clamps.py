"""[37] to [39]: clamps, one behind another, their forms, and what they make into a number."""

import itertools
import unittest

from heldnotes.clamps import clamped, formed, joined, shown
from heldnotes.errors import BadClamp, BadNumber
from tests.samples import any_objects, deep, not_ints, same_object, seeded

SMALL = [(low, step, high) for low in (None, -2, 0, 1) for high in (None, -2, 1, 2) for step in (-3, 0, 2)
         if low is None or high is None or low <= high]
FAR = 10 ** 12 - 1


def slow_clamped(clamp, x):
    """What a clamp makes of x, straight from the words."""
    low, step, high = clamp
    x = x + step
    if low is not None and x < low:
        x = low
    if high is not None and x > high:
        x = high
    return x


def not_clamps():
    """Objects that are no clamps, made anew at each call."""
    told = any_objects() + [(1, 2), (1, 2, 3, 4), (2, 0, 1), [1, 0, 0], (FAR, 0, FAR - 1), "abc", (None,), {0: 0, 1: 1, 2: 2}]
    for thing in (True, False, "1", "", [], (), {}, [1], deep(2000)):
        told += [(thing, 0, None), [None, thing, None], (None, 0, thing), (thing, thing, thing)]
    return told + [(None, None, None), (1, None, 1), ((1, 2, 3),), [[None, 0, None]], (None, 0, None, None), (None, 0)]


def random_clamp(chance):
    """A clamp with no end, one, both, or both equal, by a chance with a seed."""
    most = chance.choice([3, 3, 20, FAR])
    low, high = sorted([chance.randint(-most, most), chance.randint(-most, most)])
    kind = chance.randint(0, 4)
    clamp = (None if kind in (0, 1) else low, chance.randint(-most, most), None if kind in (0, 2) else high)
    return (low, clamp[1], low) if kind == 4 else clamp


class ClampedTest(unittest.TestCase):

    def test_no_end_one_both_and_both_equal(self):
        for clamp, told in (((None, 3, None), [-2, 3, 8]), ((0, 3, None), [0, 3, 8]), ((None, -3, 0), [-8, -3, 0]),
                            ((-1, 1, 4), [-1, 1, 4]), ((2, 0, 2), [2, 2, 2]), ((2, 100, 2), [2, 2, 2]),
                            ((0, FAR, FAR), [FAR - 5, FAR, FAR]), ((None, -FAR, None), [-FAR - 5, -FAR, 5 - FAR])):
            for kind in (tuple, list):
                self.assertEqual([clamped(kind(clamp), x) for x in (-5, 0, 5)], told)

    def test_all_small_ones(self):
        for clamp in SMALL:
            for x in range(-8, 9):
                self.assertEqual(clamped(clamp, x), slow_clamped(clamp, x))
                self.assertIs(type(clamped(clamp, x)), int)

    def test_by_chance(self):
        chance = seeded(140)
        for _ in range(1000):
            clamp, x = random_clamp(chance), chance.randint(-FAR, FAR)
            self.assertEqual(clamped(clamp, x), slow_clamped(clamp, x))

    def test_what_is_no_clamp(self):
        for at, thing in enumerate(not_clamps()):
            for x in (0, None, True):
                with self.subTest(at=at), self.assertRaises(BadClamp) as caught:
                    clamped(thing, x)
                self.assertIs(type(caught.exception.index), int)
                self.assertEqual(caught.exception.index, 0)

    def test_what_is_no_number(self):
        for at, thing in enumerate(not_ints()):
            for clamp in ((None, 0, None), [1, 2, 3]):
                with self.subTest(at=at), self.assertRaises(BadNumber) as caught:
                    clamped(clamp, thing)
                self.assertTrue(same_object(caught.exception.number, thing))


class JoinedTest(unittest.TestCase):

    def test_none_and_one(self):
        for nothing in ([], ()):
            self.assertEqual(joined(nothing), (None, 0, None))
        for clamp in SMALL:
            self.assertEqual(joined([clamp]), formed(clamp))
            self.assertEqual(joined((list(clamp),)), formed(clamp))

    def test_two_that_do_one_behind_another(self):
        for one, other in itertools.product(SMALL, SMALL):
            told = joined([one, other])
            for x in range(-9, 10):
                self.assertEqual(slow_clamped(told, x), slow_clamped(other, slow_clamped(one, x)))
            self.assertEqual(told, formed(told))

    def test_by_hand(self):
        self.assertEqual(joined([(0, 1, 5), (0, -2, 5)]), (0, -1, 3))
        self.assertEqual(joined([(None, 1, None), (None, 2, None)]), (None, 3, None))
        self.assertEqual(joined([(0, 0, None), (None, 0, 0)]), (0, 0, 0))
        self.assertEqual(joined([(None, 0, 0), (3, 7, None)]), (3, 7, 7))
        self.assertEqual(joined([(5, 0, None), (None, 9, 2)]), (2, 0, 2))
        self.assertEqual(joined([(0, 4, 0), (None, 3, None)]), (3, 0, 3))
        self.assertEqual(joined([(0, FAR, None), (None, -FAR, FAR)]), (-FAR, 0, FAR))

    def test_many_by_chance(self):
        chance = seeded(141)
        kinds = {}
        for _ in range(600):
            clamps = [random_clamp(chance) for _ in range(chance.randint(2, 7))]
            told = joined(chance.choice([list, tuple])([chance.choice([list, tuple])(clamp) for clamp in clamps]))
            self.assertEqual([type(told), type(told[1]), len(told)], [tuple, int, 3])
            kinds[told[0] is None, told[2] is None] = True
            for _ in range(10):
                x = after = chance.choice([chance.randint(-30, 30), chance.randint(-FAR, FAR)])
                for clamp in clamps:
                    after = slow_clamped(clamp, after)
                self.assertEqual(slow_clamped(told, x), after)
            self.assertEqual(told, formed(told))
            # What is told may be passed on, and parts may be joined ahead.
            at = chance.randint(0, len(clamps))
            self.assertEqual(joined([joined(clamps[:at]), joined(clamps[at:])]), told)
        self.assertEqual(len(kinds), 4)

    def test_the_first_thing_that_is_no_clamp(self):
        good = [(0, 1, 2), [None, 0, None], (5, -5, 5), (None, 1, 3)]
        for at, thing in enumerate(not_clamps()):
            for index in range(4):
                for clamps in (good[:index] + [thing] + good[index:], tuple(good[:index] + [thing, thing])):
                    with self.subTest(at=at), self.assertRaises(BadClamp) as caught:
                        joined(clamps)
                    self.assertEqual(caught.exception.index, index)

    def test_what_is_no_list(self):
        for at, thing in enumerate(any_objects()):
            if isinstance(thing, (list, tuple)) and not thing:
                continue
            with self.subTest(at=at), self.assertRaises(BadClamp) as caught:
                joined(thing)
            self.assertEqual(caught.exception.index, 0)

    def test_what_is_passed_stays(self):
        clamps = [[0, 1, 2], (None, 3, None)]
        joined(clamps)
        self.assertEqual(clamps, [[0, 1, 2], (None, 3, None)])


class FormTest(unittest.TestCase):
    """[38]"""

    def test_the_step_is_0_if_both_ends_are_equal(self):
        for clamp, form in (((3, 7, 3), (3, 0, 3)), ((3, 0, 3), (3, 0, 3)), ((0, -9, 0), (0, 0, 0)),
                            ((None, 7, None), (None, 7, None)), ((3, 7, None), (3, 7, None)), ((None, 7, 3), (None, 7, 3)),
                            ((3, 7, 4), (3, 7, 4))):
            for kind in (tuple, list):
                self.assertEqual(formed(kind(clamp)), form)
                self.assertIs(type(formed(kind(clamp))), tuple)

    def test_two_do_the_same_exactly_if_their_forms_are_equal(self):
        done = {clamp: [slow_clamped(clamp, x) for x in range(-9, 10)] for clamp in SMALL}
        equal = 0
        for one, other in itertools.product(SMALL, SMALL):
            self.assertIs(formed(one) == formed(other), done[one] == done[other])
            equal += one != other and formed(one) == formed(other)
        self.assertGreater(equal, 10)

    def test_what_is_no_clamp(self):
        for at, thing in enumerate(not_clamps()):
            with self.subTest(at=at), self.assertRaises(BadClamp) as caught:
                formed(thing)
            self.assertEqual(caught.exception.index, 0)


class ShownTest(unittest.TestCase):
    """[39]"""

    def test_against_all_integers_around(self):
        for clamp in SMALL:
            for x in range(-6, 7):
                made = [y for y in range(-20, 21) if slow_clamped(clamp, y) == x]
                told = shown(list(clamp), x)
                if not made:
                    self.assertIsNone(told)
                    continue
                self.assertIs(type(told), tuple)
                self.assertEqual(told, (None if made[0] == -20 else made[0], None if made[-1] == 20 else made[-1]))

    def test_by_hand(self):
        self.assertEqual(shown((None, 5, None), 7), (2, 2))
        self.assertEqual(shown((0, 5, 9), 0), (None, -5))
        self.assertEqual(shown((0, 5, 9), 9), (4, None))
        self.assertEqual(shown((0, 5, 9), 4), (-1, -1))
        self.assertEqual(shown((4, 5, 4), 4), (None, None))
        for x in (3, 5):
            self.assertIsNone(shown((4, 5, 4), x))
        self.assertIsNone(shown((0, 5, None), -1))
        self.assertIsNone(shown((None, 5, 0), 1))
        self.assertEqual(shown((0, -FAR, FAR), FAR), (2 * FAR, None))

    def test_what_is_no_clamp_comes_ahead_of_what_is_no_number(self):
        for at, thing in enumerate(not_clamps()):
            for x in (0, None, "1"):
                with self.subTest(at=at), self.assertRaises(BadClamp) as caught:
                    shown(thing, x)
                self.assertEqual(caught.exception.index, 0)

    def test_what_is_no_number(self):
        for at, thing in enumerate(not_ints()):
            for clamp in ((None, 0, None), [1, 2, 3], (0, 0, 0)):
                with self.subTest(at=at), self.assertRaises(BadNumber) as caught:
                    shown(clamp, thing)
                self.assertTrue(same_object(caught.exception.number, thing))


if __name__ == "__main__":
    unittest.main()
