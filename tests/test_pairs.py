"""[41], [42], [44]: pairs of devices, and letters that cross, come twice and are lost."""

import copy
import unittest

from heldnotes.books import Book
from heldnotes.comparing import alike
from heldnotes.devices import Device
from heldnotes.errors import (BadAt, BadKey, BadNumber, BadSort, HeldError, NoDeed, NotSent, Sent, UnlikeSorts)
from heldnotes.pairs import Pair
from tests.samples import (any_objects, example_book, example_rows, mild_book, not_ints, not_words, random_book,
                           same_object, seeded, with_rows)
from tests.test_comparing import doubled, few_states
from tests.test_devices import view

SHOW, SEEN, GONE = ("mail", "show", 1), ("mail", "seen", 1), ("mail", "gone", 1)
AT_NONE = [2, -1, 10 ** 12, True, False, None, "0", "", [0], (1,), {0: 1}, [], ()]


def other_book():
    """The example's book without a row, with its words in another order."""
    rows = example_rows()
    del rows[("none", "seen", "newer")]
    return Book(["read", "none", "new"], ["gone", "show", "seen"], "none", rows, worths={"new": 1})


def pair():
    return Pair(example_book(), other_book())


def all_told(told):
    """All that a pair tells."""
    return (told.road(), told.differ(), told.owed(0), told.owed(1), view(told.device(0)), view(told.device(1)))


def pair_of(deeds, books=None):
    """A pair that did these deeds."""
    told = Pair(*(books or (example_book(), other_book())))
    for word, *parts in deeds:
        getattr(told, word)(*parts)
    return told


class SlowPair:
    """What a pair tells, worked out anew each time from the deeds, straight from the words."""

    def __init__(self, one, other):
        self.books = (one, other)
        self.deeds = []
        self.back = []

    def road(self):
        told = []
        for word, *parts in self.deeds:
            if word == "send":
                told.append(tuple(parts))
            if word == "lose":
                told.remove(tuple(parts))
        return sorted(told)

    def owed(self, at):
        owed = []
        for word, *parts in self.deeds:
            letter = tuple(parts[-3:])
            if word == "send":
                owed.append(letter)
            elif letter in owed and (word == "lose" or parts[0] == at):
                owed.remove(letter)
        return sorted(owed)

    def device(self, at):
        device = Device(self.books[at])
        for word, *parts in self.deeds:
            if word == "arrive" and parts[0] == at:
                device.take(*parts[1:])
        return device

    def differ(self):
        one, other = self.device(0), self.device(1)
        return sorted(key for key in set(one.met()) | set(other.met()) if one.state(key) != other.state(key))

    def told(self):
        return (self.road(), self.differ(), self.owed(0), self.owed(1), view(self.device(0)), view(self.device(1)))


class MadeTest(unittest.TestCase):

    def test_sorts_in_another_order(self):
        told = pair()
        self.assertEqual(all_told(told), ([], [], [], [], view(Device(example_book())), view(Device(other_book()))))
        told.send(*SHOW)
        self.assertEqual(told.arrive(0, *SHOW), (True, 1))
        self.assertEqual(told.arrive(1, *SHOW), (True, 1))

    def test_by_name(self):
        told = Pair(other=other_book(), one=example_book())
        self.assertIsNone(told.send(number=1, sort="seen", key="mail"))
        self.assertEqual(told.arrive(number=1, sort="seen", key="mail", at=0), (False, 0))
        self.assertEqual(told.device(at=0).state("mail"), "read")
        self.assertEqual(told.device(at=1).state("mail"), "none")
        self.assertEqual(told.owed(at=1), [SEEN])
        self.assertIsNone(told.lose(number=1, sort="seen", key="mail"))
        self.assertEqual(told.would(deeds=[]), (0, 0))

    def test_unlike_sorts(self):
        one = Book(["x"], ["s", "t"], "x", {})
        for sorts in (["s"], ["t"], ["s", "u"], ["s", "t", "u"], ["x"]):
            other = Book(["x"], sorts, "x", {})
            self.assertRaises(UnlikeSorts, Pair, one, other)
            self.assertRaises(UnlikeSorts, Pair, other, one)

    def test_each_device_goes_by_its_book(self):
        told = pair_of([("send", *SEEN), ("send", *SHOW), ("arrive", 0, *SEEN), ("arrive", 1, *SEEN)])
        self.assertEqual([told.device(at).state("mail") for at in (0, 1)], ["read", "none"])
        self.assertEqual(told.differ(), ["mail"])
        self.assertEqual(told.arrive(0, *SHOW), (False, 0))
        self.assertEqual(told.arrive(1, *SHOW), (True, 1))
        self.assertEqual([told.device(at).state("mail") for at in (0, 1)], ["read", "new"])


class RoadTest(unittest.TestCase):

    def test_the_road_is_ascending(self):
        letters = [("b", "show", 1), ("a", "show", 10), ("a", "gone", 99), ("a", "show", 9), ("a", "show", -9), ("c", "gone", 0)]
        told = pair_of([("send", *letter) for letter in letters])
        self.assertEqual(told.road(), sorted(letters))
        self.assertEqual([type(part) for part in (told.road(), told.road()[0]) + told.road()[0]], [list, tuple, str, str, int])
        self.assertEqual(told.owed(0), sorted(letters))
        self.assertEqual(told.owed(1), sorted(letters))

    def test_a_letter_arrives_never_once_and_often(self):
        told = pair_of([("send", *SHOW), ("send", *GONE)])
        self.assertEqual((told.owed(0), told.owed(1)), ([GONE, SHOW], [GONE, SHOW]))
        self.assertEqual(told.arrive(0, *SHOW), (True, 1))
        self.assertEqual(told.road(), [GONE, SHOW])
        self.assertEqual((told.owed(0), told.owed(1)), ([GONE], [GONE, SHOW]))
        self.assertEqual(told.arrive(0, *SHOW), (False, 1))
        self.assertEqual(told.arrive(0, *SHOW), (False, 1))
        self.assertEqual(told.device(0).letters(), [SHOW] * 3)
        self.assertEqual(told.device(1).letters(), [])
        self.assertEqual(told.arrive(1, *GONE), (False, 0))
        self.assertEqual(told.arrive(1, *SHOW), (False, 0))
        self.assertEqual((told.owed(0), told.owed(1)), ([GONE], []))
        self.assertEqual(told.arrive(0, *GONE), (False, 0))
        self.assertEqual((told.owed(0), told.owed(1), told.differ()), ([], [], []))

    def test_a_lost_letter_is_owed_anew_when_it_is_sent_again(self):
        told = pair_of([("send", *SHOW), ("arrive", 0, *SHOW)])
        told.lose(*SHOW)
        self.assertEqual((told.road(), told.owed(0), told.owed(1)), ([], [], []))
        self.assertEqual(told.device(0).letters(), [SHOW])
        told.send(*SHOW)
        self.assertEqual((told.road(), told.owed(0), told.owed(1)), ([SHOW], [SHOW], [SHOW]))
        self.assertEqual(told.arrive(0, *SHOW), (False, 1))
        self.assertEqual((told.owed(0), told.owed(1)), ([], [SHOW]))

    def test_keys_at_which_they_differ(self):
        told = pair_of([("send", key, "seen", 1) for key in "cab"] + [("send", "d", "gone", 1), ("send", "b", "show", 2)])
        for key in "cab":
            told.arrive(0, key, "seen", 1)
        # At the other device no letter of these keys has come, so each is none there.
        self.assertEqual(told.differ(), ["a", "b", "c"])
        told.arrive(1, "d", "gone", 1)
        self.assertEqual(told.differ(), ["a", "b", "c"])
        told.arrive(1, "b", "seen", 1)
        self.assertEqual(told.differ(), ["a", "b", "c"])
        told.arrive(0, "b", "show", 2)
        told.arrive(1, "b", "show", 2)
        self.assertEqual(told.differ(), ["a", "c"])

    def test_first_states_that_are_unlike(self):
        one, other = Book(["x"], ["s"], "x", {}), Book(["y"], ["s"], "y", {})
        told = Pair(one, other)
        told.send("a", "s", 1)
        self.assertEqual(told.differ(), [])
        told.arrive(1, "a", "s", 1)
        self.assertEqual(told.differ(), ["a"])

    def test_a_device_that_is_told_is_a_twin(self):
        told = pair_of([("send", *SHOW), ("send", *GONE), ("arrive", 0, *SHOW), ("arrive", 0, *GONE)])
        told.undo()
        twin = told.device(0)
        self.assertIsInstance(twin, Device)
        self.assertEqual((twin.letters(), twin.badge()), ([SHOW], 1))
        self.assertRaises(HeldError, twin.again)
        twin.take("post", "show", 5)
        self.assertEqual((told.device(0).letters(), told.device(0).badge()), ([SHOW], 1))
        self.assertEqual([twin.undo(), twin.undo()], [1, 0])
        self.assertEqual((told.device(0).letters(), told.device(0).badge()), ([SHOW], 1))
        told.again()
        self.assertEqual(told.device(0).letters(), [SHOW, GONE])
        self.assertEqual(twin.letters(), [])

    def test_what_is_told_may_be_changed(self):
        told = pair_of([("send", *SHOW), ("send", *SEEN), ("arrive", 0, *SEEN)])
        before = all_told(told)
        for answer in (told.road(), told.owed(0), told.owed(1), told.differ()):
            self.assertIs(type(answer), list)
            answer.clear()
        self.assertEqual(all_told(told), before)


class ErrorTest(unittest.TestCase):

    def refuse(self, told, error, attribute, thing, word, *parts):
        """A deed is refused, and nothing is changed."""
        before = all_told(told)
        with self.assertRaises(error) as caught:
            getattr(told, word)(*parts)
        self.assertTrue(same_object(getattr(caught.exception, attribute), thing))
        self.assertEqual(all_told(told), before)

    def test_at_that_is_none(self):
        told = pair_of([("send", *SHOW)])
        for thing in AT_NONE + [thing for thing in any_objects() if thing not in (0, 1) or type(thing) is not int]:
            self.refuse(told, BadAt, "at", thing, "device", thing)
            self.refuse(told, BadAt, "at", thing, "owed", thing)
            self.refuse(told, BadAt, "at", thing, "arrive", thing, *SHOW)
            # It comes ahead of all others.
            self.refuse(told, BadAt, "at", thing, "arrive", thing, 1, 2, "3")
            self.refuse(told, BadAt, "at", thing, "arrive", thing, *SEEN)

    def test_keys_that_are_none(self):
        told = pair_of([("send", *SHOW)])
        for thing in not_words():
            for rest in (("show", 1), ("shows", None), (None, True)):
                self.refuse(told, BadKey, "key", thing, "send", thing, *rest)
                self.refuse(told, BadKey, "key", thing, "lose", thing, *rest)
                self.refuse(told, BadKey, "key", thing, "arrive", 1, thing, *rest)

    def test_sorts_that_are_none(self):
        told = pair_of([("send", *SHOW)])
        for thing in not_words() + ["shows", "none", "mail", "newer"]:
            for number in (1, None, True):
                self.refuse(told, BadSort, "word", thing, "send", "mail", thing, number)
                self.refuse(told, BadSort, "word", thing, "lose", "mail", thing, number)
                self.refuse(told, BadSort, "word", thing, "arrive", 0, "mail", thing, number)

    def test_numbers_that_are_none(self):
        told = pair_of([("send", *SHOW)])
        for thing in not_ints():
            for sort in ("show", "gone"):
                self.refuse(told, BadNumber, "number", thing, "send", "mail", sort, thing)
                self.refuse(told, BadNumber, "number", thing, "lose", "mail", sort, thing)
                self.refuse(told, BadNumber, "number", thing, "arrive", 1, "mail", sort, thing)

    def test_letters_that_are_on_the_road_and_that_are_not(self):
        told = pair_of([("send", *SHOW), ("arrive", 0, *SHOW)])
        self.refuse(told, Sent, "letter", SHOW, "send", *SHOW)
        for letter in (SEEN, ("post", "show", 1), ("mail", "show", 2), ("mail", "show", -1)):
            self.refuse(told, NotSent, "letter", letter, "lose", *letter)
            self.refuse(told, NotSent, "letter", letter, "arrive", 0, *letter)
            self.refuse(told, NotSent, "letter", letter, "arrive", 1, *letter)
        told.lose(*SHOW)
        self.refuse(told, NotSent, "letter", SHOW, "lose", *SHOW)
        self.refuse(told, NotSent, "letter", SHOW, "arrive", 0, *SHOW)
        told.send(*SHOW)
        self.refuse(told, Sent, "letter", SHOW, "send", *SHOW)


class UndoTest(unittest.TestCase):
    """[43]"""

    def test_each_deed(self):
        told = pair()
        seen = [all_told(told)]
        deeds = [("send", *SHOW), ("send", *SEEN), ("arrive", 0, *SHOW), ("arrive", 1, *SEEN), ("arrive", 0, *SHOW),
                 ("lose", *SHOW), ("arrive", 0, *SEEN), ("send", *SHOW), ("arrive", 1, *SHOW), ("lose", *SEEN)]
        for word, *parts in deeds:
            getattr(told, word)(*parts)
            seen.append(all_told(told))
        self.assertRaises(NoDeed, told.again)
        for before in seen[-2::-1]:
            self.assertIsNone(told.undo())
            self.assertEqual(all_told(told), before)
        self.assertRaises(NoDeed, told.undo)
        self.assertEqual(all_told(told), seen[0])
        for behind in seen[1:]:
            self.assertIsNone(told.again())
            self.assertEqual(all_told(told), behind)
        self.assertRaises(NoDeed, told.again)
        self.assertEqual(all_told(told), seen[-1])

    def test_what_was_owed_ahead_of_a_deed_is_owed_again(self):
        told = pair_of([("send", *SHOW), ("arrive", 0, *SHOW), ("arrive", 0, *SHOW)])
        told.undo()
        self.assertEqual((told.owed(0), told.device(0).letters()), ([], [SHOW]))
        told.undo()
        self.assertEqual((told.owed(0), told.device(0).letters()), ([SHOW], []))
        told.again()
        told.lose(*SHOW)
        told.undo()
        self.assertEqual((told.road(), told.owed(0), told.owed(1)), ([SHOW], [], [SHOW]))

    def test_a_new_deed_makes_that_none_can_be_done_again(self):
        for word, *parts in (("send", *GONE), ("arrive", 1, *SHOW), ("lose", *SHOW)):
            told = pair_of([("send", *SHOW), ("send", *SEEN)])
            told.undo()
            getattr(told, word)(*parts)
            before = all_told(told)
            self.assertRaises(NoDeed, told.again)
            self.assertEqual(all_told(told), before)

    def test_a_deed_that_is_refused_does_not(self):
        for word, *parts in (("send", *SHOW), ("arrive", 1, *GONE), ("lose", *GONE), ("arrive", True, *SHOW),
                             ("send", "Mail", "show", 1), ("lose", "mail", "show", None), ("arrive", 0, "mail", "", 1)):
            told = pair_of([("send", *SHOW), ("send", *SEEN)])
            told.undo()
            self.assertRaises(HeldError, getattr(told, word), *parts)
            self.assertEqual(told.road(), [SHOW])
            told.again()
            self.assertEqual(told.road(), [SEEN, SHOW])

    def test_against_the_words_by_chance(self):
        chance = seeded(160)
        done = {}
        for _ in range(60):
            one, other = chance.choice([(example_book(), other_book()), (random_book(chance),) * 2])
            if chance.random() < 0.5:
                other = with_rows(other, dict(list(other.rows().items())[1:]))
            told, slow = Pair(one, other), SlowPair(one, other)
            letters = [(chance.choice(["k", "l"]), chance.choice(one.sorts()), chance.randint(0, 2)) for _ in range(5)]
            for _ in range(40):
                word = chance.choice(["send", "send", "arrive", "arrive", "arrive", "lose", "undo", "undo", "again"])
                self.try_one(told, slow, word, chance.choice([0, 1]), chance.choice(letters), done)
                self.assertEqual(all_told(told), slow.told())
        for word in ("send", "arrive", "lose", "undo", "again"):
            self.assertGreater(done.get((word, True), 0), 30, done)
            self.assertGreater(done.get((word, False), 0), 20, done)

    def try_one(self, told, slow, word, at, letter, done):
        """Try a deed at both."""
        if word in ("undo", "again"):
            here, there = (slow.deeds, slow.back) if word == "undo" else (slow.back, slow.deeds)
            done[word, bool(here)] = done.get((word, bool(here)), 0) + 1
            if here:
                there.append(here.pop())
                self.assertIsNone(getattr(told, word)())
            else:
                self.assertRaises(NoDeed, getattr(told, word))
            return
        parts = (at,) + letter if word == "arrive" else letter
        can = (letter in slow.road()) is (word != "send")
        done[word, can] = done.get((word, can), 0) + 1
        if not can:
            self.assertRaises(Sent if word == "send" else NotSent, getattr(told, word), *parts)
            return
        answer = getattr(told, word)(*parts)
        if word == "arrive":
            self.assertEqual(answer, slow.device(at).take(*letter))
            self.assertEqual([type(part) for part in (answer,) + answer], [tuple, bool, int])
        else:
            self.assertIsNone(answer)
        slow.deeds.append((word,) + parts)
        slow.back = []

    def test_books_and_deeds_that_are_passed_stay(self):
        one, other = example_book(), other_book()
        kept = copy.deepcopy((one.rows(), other.rows()))
        pair_of([("send", *SHOW), ("arrive", 0, *SHOW)], (one, other))
        self.assertEqual((one.rows(), other.rows()), kept)


class AlikeTest(unittest.TestCase):
    """[44]"""

    def test_books_alike_ring_alike_and_count_alike_behind_the_same_letters(self):
        chance = seeded(161)
        for _ in range(60):
            one = few_states(chance)
            other = doubled(chance, one)
            self.assertTrue(alike(one, other))
            told = Pair(one, other)
            for _ in range(20):
                letter = (chance.choice(["k", "l", "m"]), chance.choice(one.sorts()), chance.randint(0, 4))
                if letter not in told.road():
                    told.send(*letter)
                self.assertEqual(told.arrive(0, *letter), told.arrive(1, *letter))
                devices = [told.device(at) for at in (0, 1)]
                self.assertEqual(devices[0].badge(), devices[1].badge())
                self.assertEqual(devices[0].error(), devices[1].error())
                self.assertEqual((told.owed(0), told.owed(1)), ([], []))

    def test_in_other_orders_they_may_not(self):
        told = Pair(example_book(), example_book())
        for letter in (SHOW, GONE):
            told.send(*letter)
        self.assertEqual([told.arrive(0, *letter) for letter in (SHOW, GONE)], [(True, 1), (False, 0)])
        self.assertEqual([told.arrive(1, *letter) for letter in (GONE, SHOW)], [(False, 0), (False, 0)])

    def test_one_book_in_both_orders_of_its_words(self):
        chance = seeded(162)
        for _ in range(30):
            one = mild_book(chance)
            other = Book(one.states()[::-1], one.sorts()[::-1], one.first(), one.rows(),
                         worths={state: one.worth(state) for state in one.states()})
            told = Pair(one, other)
            letter = ("k", one.sorts()[0], 3)
            told.send(*letter)
            self.assertEqual(told.arrive(0, *letter), told.arrive(1, *letter))
            self.assertEqual(told.differ(), [])


if __name__ == "__main__":
    unittest.main()
