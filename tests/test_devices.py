"""[9] to [12]: devices, their states, held numbers and badges."""

import unittest

from heldnotes.books import Book
from heldnotes.devices import Device
from heldnotes.errors import BadKey, BadNumber, BadSort
from tests.samples import (any_objects, example_book, not_ints, not_words, random_book, same_object, seeded,
                           slow_device)


def view(device, keys=()):
    """All that a device tells, of the keys that came and of some others."""
    keys = sorted(set(device.met()) | set(keys))
    return (device.met(), device.badge(), device.error(), device.letters(),
            [(key, device.state(key), device.held(key)) for key in keys])


def one_way(rows, worths=None, states=("x", "y", "z"), first="x"):
    """A device by a book of sorts s and t."""
    return Device(Book(list(states), ["s", "t"], first, rows, worths=worths))


class AgesTest(unittest.TestCase):

    def test_each_age_at_each_number(self):
        rows = {("x", "s", "newer"): ("x", True, False, 0), ("x", "t", "newer"): ("x", False, True, 1),
                ("x", "t", "same"): ("x", False, True, 2), ("x", "t", "elder"): ("x", False, True, 3)}
        for held in (None, -5, 0, 5, 10 ** 12 - 1):
            for number in (-10 ** 12, -6, -5, -4, -1, 0, 1, 4, 5, 6, 10 ** 12 - 2, 10 ** 12 - 1, 10 ** 12):
                device = one_way(rows)
                if held is not None:
                    device.take("k", "s", held)
                if held is None or number > held:
                    step = 1
                elif number == held:
                    step = 2
                else:
                    step = 3
                self.assertEqual(device.take("k", "t", number), (True, step))
                self.assertEqual(device.held("k"), held)

    def test_a_number_is_held_only_by_an_effect_that_holds(self):
        device = one_way({("x", "s", "newer"): ("y", False, True, 1), ("y", "s", "newer"): ("z", True, True, 1)})
        self.assertEqual(device.take("k", "s", 9), (True, 1))
        self.assertIsNone(device.held("k"))
        self.assertEqual(device.state("k"), "y")
        self.assertEqual(device.take("k", "s", 3), (True, 2))
        self.assertEqual(device.held("k"), 3)
        self.assertEqual(device.state("k"), "z")

    def test_an_elder_number_is_held(self):
        rows = {("x", "s", "newer"): ("x", True, False, 0), ("x", "s", "elder"): ("x", True, False, 0),
                ("x", "t", "newer"): ("y", False, True, 0)}
        device = one_way(rows)
        device.take("k", "s", 5)
        self.assertEqual(device.held("k"), 5)
        device.take("k", "s", -3)
        self.assertEqual(device.held("k"), -3)
        self.assertEqual(device.take("k", "t", -2), (True, 0))
        self.assertEqual((device.state("k"), device.held("k")), ("y", -3))

    def test_the_same_number_held_anew(self):
        device = one_way({("x", "s", "newer"): ("x", True, False, 0), ("x", "s", "same"): ("y", True, True, 4)})
        device.take("k", "s", 0)
        self.assertEqual(device.take("k", "s", 0), (True, 4))
        self.assertEqual((device.state("k"), device.held("k")), ("y", 0))

    def test_a_held_0_is_held(self):
        device = one_way({("x", "s", "newer"): ("x", True, True, 1)})
        device.take("k", "s", 0)
        self.assertEqual(device.held("k"), 0)
        self.assertEqual(device.take("k", "s", 0), (False, 1))
        self.assertEqual(device.take("k", "s", -1), (False, 1))
        self.assertEqual(device.take("k", "s", 1), (True, 2))

    def test_keys_have_their_own_numbers(self):
        device = one_way({("x", "s", "newer"): ("x", True, True, 1)})
        self.assertEqual(device.take("k", "s", 9), (True, 1))
        self.assertEqual(device.take("l", "s", 1), (True, 2))
        self.assertEqual(device.take("k", "s", 2), (False, 2))
        self.assertEqual((device.held("k"), device.held("l"), device.held("m")), (9, 1, None))

    def test_the_example(self):
        device = Device(example_book())
        told = [("show", 1, True, 1, "new"), ("show", 1, False, 1, "new"), ("seen", 1, False, 0, "read"),
                ("seen", 1, False, 0, "read"), ("show", 1, False, 0, "read"), ("gone", 0, False, 0, "read"),
                ("gone", 1, False, 0, "none"), ("show", 1, False, 0, "none"), ("show", 2, True, 1, "new"),
                ("show", 3, True, 1, "new"), ("seen", 2, False, 1, "new"), ("gone", 4, False, 0, "none"),
                ("show", 3, False, 0, "none"), ("seen", 6, False, 0, "read"), ("show", 7, True, 1, "new")]
        for sort, number, rings, badge, state in told:
            self.assertEqual(device.take("mail", sort, number), (rings, badge))
            self.assertEqual(device.state("mail"), state)
            self.assertEqual(device.error(), 0)


class BadgeTest(unittest.TestCase):

    def test_a_new_device(self):
        device = Device(Book(["x"], ["s"], "x", {}, worths={"x": 7}))
        self.assertEqual(view(device, ["k"]), ([], 0, 0, [], [("k", "x", None)]))

    def test_steps_add_up(self):
        device = one_way({("x", "s", "newer"): ("x", False, False, -9), ("x", "t", "newer"): ("x", False, False, 4)})
        badges = [device.take(key, sort, 1)[1] for key, sort in (("k", "s"), ("l", "s"), ("k", "t"), ("m", "t"))]
        self.assertEqual(badges, [-9, -18, -14, -10])
        self.assertEqual(device.badge(), -10)
        self.assertEqual(device.error(), -10)

    def test_error_is_the_badge_less_what_is_right(self):
        device = one_way({("x", "s", "newer"): ("y", True, False, 2), ("y", "t", "newer"): ("z", False, False, 0)},
                         worths={"x": 5, "y": 1, "z": -4})
        device.take("k", "s", 1)
        self.assertEqual((device.badge(), device.error()), (2, 2 - (1 - 5)))
        device.take("l", "s", 1)
        self.assertEqual((device.badge(), device.error()), (4, 4 - 2 * (1 - 5)))
        device.take("l", "t", 2)
        self.assertEqual((device.badge(), device.error()), (4, 4 - (1 - 5) - (-4 - 5)))

    def test_whole_makes_it_right_over_all_keys(self):
        rows = {("x", "s", "newer"): ("y", True, False, 9), ("x", "t", "newer"): ("z", True, True, "whole")}
        device = one_way(rows, worths={"x": 2, "y": 3, "z": -6})
        device.take("k", "s", 1)
        device.take("l", "s", 1)
        self.assertEqual(device.badge(), 18)
        self.assertEqual(device.take("m", "t", 1), (True, 2 * (3 - 2) + (-6 - 2)))
        self.assertEqual(device.error(), 0)
        device.take("m", "s", 0)
        self.assertEqual((device.badge(), device.error()), (-6, 0))

    def test_whole_counts_the_state_behind_the_letter(self):
        rows = {("x", "s", "newer"): ("y", True, False, "whole"), ("y", "s", "newer"): ("z", True, False, "whole")}
        device = one_way(rows, worths={"x": 1, "y": 4, "z": 9})
        self.assertEqual([device.take("k", "s", 1)[1], device.take("k", "s", 2)[1]], [3, 8])

    def test_whole_of_a_first_letter_that_stays(self):
        device = one_way({("x", "s", "newer"): ("x", False, False, "whole"), ("x", "t", "newer"): ("x", True, True, 5)},
                         worths={"x": 6})
        self.assertEqual(device.take("k", "t", 1), (True, 5))
        self.assertEqual(device.take("l", "s", 1), (False, 0))

    def test_badges_of_many_digits(self):
        device = one_way({("x", "s", "newer"): ("x", True, True, 9)})
        for number in range(60):
            device.take("k", "s", 10 ** 13 + number)
        self.assertEqual((device.badge(), device.held("k")), (540, 10 ** 13 + 59))


class ToldTest(unittest.TestCase):

    def test_keys_of_which_no_letter_has_come(self):
        device = Device(example_book())
        device.take("mail", "show", 1)
        for key in ("a", "mai", "mails", "zzzzzzzz"):
            self.assertEqual((device.state(key), device.held(key)), ("none", None))
        self.assertEqual(device.met(), ["mail"])
        other = one_way({}, first="z")
        self.assertEqual(other.state("k"), "z")

    def test_idle_letters_count_as_come(self):
        device = one_way({})
        self.assertEqual(device.take("k", "s", 1), (False, 0))
        self.assertEqual(view(device), (["k"], 0, 0, [("k", "s", 1)], [("k", "x", None)]))

    def test_met_ascends(self):
        device = one_way({})
        for key in ("m", "z", "a", "m", "mm", "abcdefgh", "a"):
            device.take(key, "s", 1)
        self.assertEqual(device.met(), ["a", "abcdefgh", "m", "mm", "z"])

    def test_letters_as_they_came(self):
        device = one_way({})
        letters = [("m", "s", 3), ("a", "t", -10 ** 12), ("m", "s", 3), ("a", "s", 0)]
        for key, sort, number in letters:
            device.take(key, sort, number)
        self.assertEqual(device.letters(), letters)
        self.assertTrue(all(type(letter) is tuple for letter in device.letters()))

    def test_kinds(self):
        device = Device(example_book())
        told = device.take("mail", "show", 1)
        self.assertEqual((type(told), type(told[0]), type(told[1])), (tuple, bool, int))
        self.assertEqual([type(thing) for thing in (device.met(), device.letters(), device.badge(),
                                                    device.error())], [list, list, int, int])
        self.assertIs(device.take("mail", "show", 1)[0], False)

    def test_what_is_told_is_new_each_time(self):
        device = one_way({})
        device.take("k", "s", 1)
        for told in (device.met, device.letters):
            first, second = told(), told()
            self.assertIsNot(first, second)
            first.clear()
            self.assertEqual(told(), second)

    def test_arguments_by_name(self):
        device = Device(book=example_book())
        self.assertEqual(device.take(number=4, sort="show", key="mail"), (True, 1))
        self.assertEqual((device.state(key="mail"), device.held(key="mail")), ("new", 4))

    def test_devices_of_one_book_go_their_own_way(self):
        book = example_book()
        one, other = Device(book), Device(book)
        one.take("mail", "show", 1)
        self.assertEqual(view(other), ([], 0, 0, [], []))
        self.assertEqual(book, example_book())


class RefusedTest(unittest.TestCase):

    def setUp(self):
        self.device = Device(example_book())
        self.device.take("mail", "show", 1)
        self.device.take("post", "show", 1)
        self.device.undo()

    def refused(self, error, attribute, thing, call, *told):
        before = view(self.device)
        with self.assertRaises(error) as caught:
            call(*told)
        self.assertTrue(same_object(getattr(caught.exception, attribute), thing))
        self.assertEqual(view(self.device), before)

    def tearDown(self):
        # A call that raised an error has not hindered what was taken back.
        self.assertEqual(self.device.again(), 2)

    def test_keys_of_any_kind(self):
        for at, thing in enumerate(not_words()):
            with self.subTest(at=at):
                self.refused(BadKey, "key", thing, self.device.take, thing, "show", 2)
                self.refused(BadKey, "key", thing, self.device.state, thing)
                self.refused(BadKey, "key", thing, self.device.held, thing)

    def test_sorts_of_any_kind(self):
        for at, thing in enumerate(any_objects() + ["new", "read", "shows", ["show"], ("seen",)]):
            if thing == "show":
                continue
            with self.subTest(at=at):
                self.refused(BadSort, "word", thing, self.device.take, "mail", thing, 2)

    def test_numbers_of_any_kind(self):
        for at, thing in enumerate(not_ints()):
            with self.subTest(at=at):
                self.refused(BadNumber, "number", thing, self.device.take, "mail", "show", thing)
                self.refused(BadNumber, "number", thing, self.device.take, "new", "gone", thing)

    def test_the_first_error_in_the_order_of_the_text(self):
        self.refused(BadKey, "key", 7, self.device.take, 7, 8, "9")
        self.refused(BadSort, "word", 8, self.device.take, "mail", 8, "9")
        self.refused(BadNumber, "number", "9", self.device.take, "mail", "seen", "9")

    def test_great_numbers_are_numbers(self):
        device = one_way({("x", "s", "newer"): ("x", True, False, 0)})
        for number in (-10 ** 5000, -10 ** 12, 0, 10 ** 12, 10 ** 5000):
            device.take("k", "s", number)
            self.assertEqual(device.held("k"), number)


class ChanceTest(unittest.TestCase):

    def test_devices_do_as_the_words_say(self):
        chance = seeded(3)
        for _ in range(300):
            book = random_book(chance)
            device, slow = Device(book), slow_device(book)
            keys = ["a", "b", "word", "abcdefgh", "z", "m"][:chance.randint(1, 6)]
            for _ in range(40):
                letter = (chance.choice(keys), chance.choice(book.sorts()), chance.randint(-3, 3))
                slow.take(letter)
                states, held, rings, badge = slow.run()
                self.assertEqual(device.take(*letter), (rings, badge))
                self.assertEqual(device.letters(), slow.letters)
                self.assertEqual(device.badge(), badge)
                self.assertEqual(device.error(), badge - slow.right(states))
                self.assertEqual(device.met(), sorted(states))
                for key in keys:
                    self.assertEqual(device.state(key), states.get(key, book.first()))
                    self.assertEqual(device.held(key), held.get(key))


if __name__ == "__main__":
    unittest.main()
