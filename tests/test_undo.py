"""[13]: letters taken back and anew, and twins."""

import unittest

from heldnotes.books import Book
from heldnotes.devices import Device
from heldnotes.errors import BadKey, BadNumber, BadSort, NoLetter
from tests.samples import example_book, random_book, seeded, slow_device
from tests.test_devices import view

LETTERS = [("mail", "show", 1), ("post", "seen", 4), ("mail", "seen", 1), ("mail", "show", 3),
           ("call", "gone", 2), ("post", "show", 5), ("mail", "gone", 2), ("call", "show", 2)]


def device_of(letters):
    device = Device(example_book())
    for letter in letters:
        device.take(*letter)
    return device


def end_of(device):
    """Take all back and anew what can be, and tell how many letters there were each way."""
    back = again = 0
    while True:
        try:
            device.again()
        except NoLetter:
            break
        again += 1
    while True:
        try:
            device.undo()
        except NoLetter:
            break
        back += 1
    return back, again


class UndoTest(unittest.TestCase):

    def test_down_to_no_letter_and_back(self):
        device = device_of(LETTERS)
        views = [view(device_of(LETTERS[:many]), ["mail", "post", "call"]) for many in range(len(LETTERS) + 1)]
        for _ in range(2):
            for many in reversed(range(len(LETTERS))):
                self.assertEqual(device.undo(), views[many][1])
                self.assertEqual(view(device, ["mail", "post", "call"]), views[many])
            self.assertRaises(NoLetter, device.undo)
            self.assertEqual(view(device, ["mail", "post", "call"]), views[0])
            for many in range(1, len(LETTERS) + 1):
                self.assertEqual(device.again(), views[many][1])
                self.assertEqual(view(device, ["mail", "post", "call"]), views[many])
            self.assertRaises(NoLetter, device.again)
            self.assertEqual(view(device, ["mail", "post", "call"]), views[-1])

    def test_a_new_device_has_no_letter(self):
        device = Device(example_book())
        self.assertRaises(NoLetter, device.undo)
        self.assertRaises(NoLetter, device.again)
        self.assertEqual(view(device), ([], 0, 0, [], []))

    def test_the_badge_is_an_integer(self):
        device = device_of(LETTERS[:1])
        self.assertIs(type(device.undo()), int)
        self.assertIs(type(device.again()), int)

    def test_a_key_is_met_no_more(self):
        device = device_of(LETTERS[:2])
        device.undo()
        self.assertEqual(device.met(), ["mail"])
        self.assertEqual((device.state("post"), device.held("post")), ("none", None))

    def test_a_key_counts_no_more(self):
        book = Book(["x", "y"], ["s", "t"], "x", {("x", "s", "newer"): ("y", True, True, 0),
                                                  ("x", "t", "newer"): ("x", True, True, "whole")},
                    worths={"x": 1, "y": 5})
        device = Device(book)
        device.take("k", "s", 1)
        self.assertEqual(device.error(), -4)
        device.undo()
        self.assertEqual(device.error(), 0)
        self.assertEqual(device.take("l", "t", 1), (True, 0))

    def test_a_whole_is_taken_back(self):
        book = Book(["x"], ["s", "t"], "x", {("x", "s", "newer"): ("x", True, False, 7),
                                             ("x", "t", "newer"): ("x", True, False, "whole")})
        device = Device(book)
        device.take("k", "s", 1)
        device.take("k", "t", 2)
        self.assertEqual(device.badge(), 0)
        self.assertEqual(device.undo(), 7)
        self.assertEqual(device.again(), 0)

    def test_a_letter_taken_makes_that_none_can_be_taken_anew(self):
        device = device_of(LETTERS)
        for _ in range(3):
            device.undo()
        device.take("post", "gone", 9)
        self.assertRaises(NoLetter, device.again)
        self.assertEqual(device.letters(), LETTERS[:5] + [("post", "gone", 9)])
        device.undo()
        self.assertEqual(view(device), view(device_of(LETTERS[:5])))
        device.again()
        self.assertEqual(device.letters(), LETTERS[:5] + [("post", "gone", 9)])
        self.assertRaises(NoLetter, device.again)

    def test_the_very_letter_and_an_idle_one_do_so_too(self):
        for letter in (LETTERS[6], ("mail", "show", -5)):
            device = device_of(LETTERS)
            device.undo()
            device.undo()
            device.take(*letter)
            self.assertRaises(NoLetter, device.again)
            self.assertEqual(device.letters(), LETTERS[:6] + [letter])

    def test_a_refused_letter_does_not(self):
        device = device_of(LETTERS)
        for _ in range(3):
            device.undo()
        self.assertRaises(BadKey, device.take, "Mail", "show", 1)
        self.assertRaises(BadSort, device.take, "mail", "hide", 1)
        self.assertRaises(BadNumber, device.take, "mail", "show", True)
        for many in (6, 7, 8):
            device.again()
            self.assertEqual(view(device), view(device_of(LETTERS[:many])))
        self.assertRaises(NoLetter, device.again)

    def test_a_refused_undo_and_again_change_nothing(self):
        device = device_of(LETTERS[:1])
        self.assertRaises(NoLetter, device.again)
        device.undo()
        self.assertRaises(NoLetter, device.undo)
        self.assertEqual(device.again(), 1)
        self.assertEqual(view(device), view(device_of(LETTERS[:1])))

    def test_asking_does_not_hinder(self):
        device = device_of(LETTERS)
        device.undo()
        before = view(device, ["other"])
        device.twin()
        self.assertEqual(view(device, ["other"]), before)
        device.again()
        self.assertEqual(view(device), view(device_of(LETTERS)))

    def test_devices_do_as_the_words_say(self):
        chance = seeded(4)
        for _ in range(200):
            book = random_book(chance)
            device, slow = Device(book), slow_device(book)
            for _ in range(60):
                deed = chance.random()
                if deed < 0.5:
                    letter = (chance.choice("abc"), chance.choice(book.sorts()), chance.randint(0, 4))
                    slow.take(letter)
                    device.take(*letter)
                elif deed < 0.8 and slow.letters:
                    slow.undo()
                    self.assertEqual(device.undo(), slow.run()[3])
                elif slow.back:
                    slow.again()
                    self.assertEqual(device.again(), slow.run()[3])
                else:
                    self.assertRaises(NoLetter, device.again)
                states, held, _, badge = slow.run()
                self.assertEqual(view(device, "abc"), (
                    sorted(states), badge, badge - slow.right(states), slow.letters,
                    [(key, states.get(key, book.first()), held.get(key)) for key in "abc"]))


class TwinTest(unittest.TestCase):

    def test_a_twin_is_alike(self):
        for many in range(len(LETTERS) + 1):
            device = device_of(LETTERS[:many])
            twin = device.twin()
            self.assertIs(type(twin), Device)
            self.assertIsNot(twin, device)
            self.assertEqual(view(twin, ["none"]), view(device, ["none"]))

    def test_the_letters_of_a_twin_can_be_taken_back(self):
        twin = device_of(LETTERS).twin()
        for many in reversed(range(len(LETTERS))):
            badge = twin.undo()
            self.assertEqual(badge, device_of(LETTERS[:many]).badge())
            self.assertEqual(view(twin), view(device_of(LETTERS[:many])))
        self.assertRaises(NoLetter, twin.undo)

    def test_nothing_can_be_taken_anew_at_a_twin(self):
        device = device_of(LETTERS)
        device.undo()
        device.undo()
        twin = device.twin()
        self.assertRaises(NoLetter, twin.again)
        self.assertEqual(twin.letters(), LETTERS[:6])
        self.assertEqual(end_of(twin), (6, 0))
        self.assertEqual(end_of(device), (8, 2))

    def test_twins_go_their_own_way(self):
        device = device_of(LETTERS[:4])
        twin = device.twin()
        twin.take("mail", "seen", 3)
        twin.take("fresh", "show", 1)
        self.assertEqual(view(device, ["fresh"]), view(device_of(LETTERS[:4]), ["fresh"]))
        device.undo()
        device.undo()
        self.assertEqual(view(twin), view(device_of(LETTERS[:4] + [("mail", "seen", 3), ("fresh", "show", 1)])))
        device.take("post", "gone", 7)
        twin.undo()
        self.assertEqual(view(twin), view(device_of(LETTERS[:4] + [("mail", "seen", 3)])))
        self.assertEqual(view(device), view(device_of(LETTERS[:2] + [("post", "gone", 7)])))

    def test_a_twin_goes_by_the_same_book(self):
        chance = seeded(5)
        for _ in range(60):
            book = random_book(chance)
            device = Device(book)
            for _ in range(12):
                device.take(chance.choice("abc"), chance.choice(book.sorts()), chance.randint(0, 4))
            for _ in range(chance.randint(0, 5)):
                device.undo()
            twin = device.twin().twin()
            self.assertEqual(view(twin, "abc"), view(device, "abc"))
            for _ in range(6):
                letter = (chance.choice("abc"), chance.choice(book.sorts()), chance.randint(0, 4))
                self.assertEqual(twin.take(*letter), device.take(*letter))
            self.assertEqual(view(twin, "abc"), view(device, "abc"))


if __name__ == "__main__":
    unittest.main()
