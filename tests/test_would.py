"""[43]: what the badges of a pair would be behind a list of deeds."""

import copy
import unittest

from heldnotes.errors import BadAt, BadDeed, BadKey, BadNumber, BadSort, HeldError, NoDeed, NotSent, Sent
from heldnotes.pairs import Pair
from tests.samples import any_objects, deep, mild_book, not_ints, not_words, same_object, seeded, with_rows
from tests.test_pairs import AT_NONE, GONE, SEEN, SHOW, all_told, pair, pair_of

SEND, LOSE, TAKE = ("send", *SHOW), ("lose", *SHOW), ("arrive", 0, *SHOW)


def not_deeds():
    """Objects that are no deeds, made anew at each call."""
    told = any_objects() + [("send",), ("send", "mail", "show"), ("send", 0, "mail", "show", 1), ("lose", 0, *SHOW),
                            ("lose", "mail"), ("arrive", *SHOW), ("arrive", 0, *SHOW, 1), ("arrive",), ["arrive"],
                            ("take", 0, *SHOW), ("undo",), ("again",), ("sends", *SHOW), ("Send", *SHOW), "send", "sends",
                            {"send": 1, "a": 2, "b": 3, "c": 4}]
    for thing in any_objects():
        if thing not in ("send", "lose", "arrive"):
            told += [(thing, *SHOW), [thing, 0, *SHOW]]
    return told


class WouldTest(unittest.TestCase):

    def test_no_deed(self):
        for told, badges in ((pair(), (0, 0)), (pair_of([SEND, TAKE]), (1, 0)),
                             (pair_of([SEND, TAKE, ("arrive", 1, *SHOW)]), (1, 1))):
            for deeds in ([], ()):
                self.assertEqual(told.would(deeds), badges)
                self.assertEqual([type(part) for part in (told.would(deeds),) + told.would(deeds)], [tuple, int, int])

    def test_deeds_one_after_another(self):
        told = pair()
        deeds = [SEND, ("send", *GONE), TAKE, TAKE, ("arrive", 1, *GONE), ("arrive", 1, *SHOW)]
        self.assertEqual(told.would(deeds), (1, 0))
        self.assertEqual(told.would(deeds + [LOSE, SEND, ("arrive", 0, *GONE)]), (0, 0))
        self.assertEqual(told.would([SEND, ("arrive", 1, *SHOW), ("arrive", 0, *SHOW)]), (1, 1))
        self.assertEqual(told.would([SEND, LOSE]), (0, 0))

    def test_deeds_as_lists_and_as_tuples(self):
        told = pair()
        for deeds in ([SEND, TAKE], (SEND, TAKE), [list(SEND), list(TAKE)], (list(SEND), TAKE)):
            self.assertEqual(told.would(deeds), (1, 0))

    def test_it_goes_on_from_what_was_done(self):
        told = pair_of([SEND, TAKE, ("send", *SEEN)])
        self.assertEqual(told.would([("arrive", 0, *SEEN), ("arrive", 1, *SHOW)]), (0, 1))
        self.assertEqual(told.would([("arrive", 1, *SEEN), ("arrive", 1, *SHOW)]), (1, 1))
        self.assertEqual(told.would([LOSE, SEND, ("arrive", 1, *SHOW)]), (1, 1))

    def test_it_changes_nothing(self):
        told = pair_of([SEND, TAKE, ("send", *SEEN)])
        before = all_told(told)
        for deeds in ([], [LOSE], [("arrive", 1, *SHOW), ("arrive", 0, *SEEN)], [("send", *GONE), ("arrive", 0, *GONE)]):
            told.would(deeds)
            self.assertEqual(all_told(told), before)
        for deeds in ([LOSE, LOSE], [("arrive", 1, *SHOW), SEND], [LOSE, None], None):
            self.assertRaises(HeldError, told.would, deeds)
            self.assertEqual(all_told(told), before)
        # Neither is there more to take back, nor less.
        for _ in range(3):
            told.undo()
        self.assertEqual(all_told(told), all_told(pair()))
        self.assertRaises(NoDeed, told.undo)

    def test_behind_an_undo(self):
        told = pair_of([SEND, TAKE, ("arrive", 1, *SHOW)])
        told.undo()
        self.assertEqual(told.would([]), (1, 0))
        self.assertEqual(told.would([("arrive", 1, *SHOW)]), (1, 1))
        self.assertRaises(Sent, told.would, [SEND])
        told.undo()
        told.undo()
        self.assertEqual(told.would([]), (0, 0))
        self.assertRaises(NotSent, told.would, [TAKE])
        self.assertEqual(told.would([SEND, TAKE]), (1, 0))
        # What was taken back can still be done again.
        for badges in ((0, 0), (1, 0), (1, 1)):
            told.again()
            self.assertEqual(told.would([]), badges)
        self.assertRaises(NoDeed, told.again)

    def test_it_tells_what_there_is_when_they_are_done(self):
        chance = seeded(170)
        done = 0
        for _ in range(80):
            one = mild_book(chance)
            other = with_rows(one, dict(list(one.rows().items())[1:]))
            letters = [(chance.choice(["k", "l"]), chance.choice(one.sorts()), chance.randint(0, 2)) for _ in range(4)]
            deeds = [chance.choice([("send", *letter), ("arrive", chance.randint(0, 1), *letter), ("lose", *letter)])
                     for letter in letters * 6]
            told = Pair(one, other)
            ahead, rest = [], []
            for deed in deeds:
                try:
                    pair_of(ahead + [deed], (one, other))
                except HeldError as error:
                    for kinds in (list, tuple):
                        with self.assertRaises(type(error)) as caught:
                            told.would([kinds(part) for part in rest + [deed]])
                        self.assertEqual(vars(caught.exception), vars(error))
                    continue
                ahead.append(deed)
                rest.append(deed)
                end = pair_of(ahead, (one, other))
                self.assertEqual(told.would(rest), (end.device(0).badge(), end.device(1).badge()))
                if chance.random() < 0.2:
                    told, rest = end, []
                done += 1
        self.assertGreater(done, 300)


class RefusedTest(unittest.TestCase):

    def refuse(self, error, attribute, thing, deeds, told=None):
        """A list of deeds is refused."""
        with self.assertRaises(error) as caught:
            (told or pair()).would(deeds)
        self.assertTrue(same_object(getattr(caught.exception, attribute), thing))

    def test_what_is_no_list(self):
        for at, thing in enumerate(any_objects()):
            if isinstance(thing, (list, tuple)) and not thing:
                continue
            with self.subTest(at=at):
                self.refuse(BadDeed, "index", 0, thing)

    def test_the_first_thing_that_is_no_deed_at_each_index(self):
        for at, thing in enumerate(not_deeds()):
            for index, good in enumerate(([], [SEND], [SEND, list(TAKE)], [SEND, TAKE, LOSE])):
                with self.subTest(at=at, index=index):
                    self.refuse(BadDeed, "index", index, good + [thing])
                    self.refuse(BadDeed, "index", index, tuple(good + [thing, thing, SEND]))

    def test_it_comes_ahead_of_all_else(self):
        for bad in (TAKE, LOSE, ("arrive", 2, *SHOW), ("send", "Mail", "show", 1), ("send", None, None, None),
                    ("lose", "mail", "shows", 1), ("arrive", None, 1, 2, "3")):
            self.refuse(BadDeed, "index", 1, [bad, None])
            self.refuse(BadDeed, "index", 3, [bad, SEND, bad, ("arrive", *SHOW), bad])

    def test_a_word_and_as_many_things_behind_it_are_a_deed_whatever_these_are(self):
        for thing in not_words() + [deep(2000)]:
            self.refuse(BadKey, "key", thing, [("send", thing, thing, thing)])
            self.refuse(BadKey, "key", thing, [["lose", thing, thing, thing]])
            self.refuse(BadKey, "key", thing, [SEND, ("arrive", 0, thing, thing, thing)])
            self.refuse(BadSort, "word", thing, [("send", "mail", thing, thing)])
        for thing in not_ints():
            self.refuse(BadNumber, "number", thing, [("send", "mail", "show", thing)])
            self.refuse(BadNumber, "number", thing, [SEND, ["arrive", 1, "mail", "show", thing]])
            self.refuse(BadNumber, "number", thing, [("lose", "mail", "show", thing)])
        for thing in AT_NONE:
            self.refuse(BadAt, "at", thing, [SEND, ("arrive", thing, *SHOW)])
            self.refuse(BadAt, "at", thing, [("arrive", thing, None, None, None)])

    def test_the_error_of_the_first_one_that_cannot_be_done(self):
        self.refuse(NotSent, "letter", SHOW, [TAKE, SEND, SEND])
        self.refuse(NotSent, "letter", SEEN, [SEND, ("lose", *SEEN), SEND])
        self.refuse(Sent, "letter", SHOW, [SEND, TAKE, SEND, ("arrive", None, *SHOW)])
        self.refuse(NotSent, "letter", SHOW, [SEND, LOSE, TAKE, ("send", None, None, None)])
        self.refuse(NotSent, "letter", SHOW, [LOSE])
        self.refuse(Sent, "letter", SHOW, [list(SEND)], pair_of([SEND]))

    def test_what_is_passed_stays(self):
        deeds = [list(SEND), TAKE]
        kept = copy.deepcopy(deeds)
        pair().would(deeds)
        self.assertEqual(deeds, kept)
        told = pair()
        told.would(deeds)
        deeds[0][3] = 9
        deeds.clear()
        self.assertEqual(all_told(told), all_told(pair()))


if __name__ == "__main__":
    unittest.main()
