"""[25], [26]: the least choices of rows to be made idle."""

import unittest

from heldnotes.books import Book
from heldnotes.errors import BadRow, BadWish
from heldnotes.wishes import breaks, broken, least_idle
from tests.samples import any_objects, example_book, random_book, random_wish, same_object, seeded, with_rows

SHOW = ("none", "show", "newer")
SEEN = ("none", "seen", "newer")
QUIET = ("quiet", [])


def slow_least(book, wishes, rows):
    """The least choices, each choice taken up and all its parts gone through."""
    keeping = []
    for bits in range(1 << len(rows)):
        choice = sorted(rows[at] for at in range(len(rows)) if bits >> at & 1)
        left = with_rows(book, {key: effect for key, effect in book.rows().items() if key not in choice})
        if all(breaks(left, wish) is None for wish in wishes):
            keeping.append(choice)
    least = [choice for choice in keeping
             if not any(part != choice and set(part) <= set(choice) for part in keeping)]
    return sorted(sorted(least), key=len)


def six():
    """A book that rings at six rows, each of which some row of letters comes to."""
    rows = {("x", "u", "newer"): ("y", False, False, 0), ("y", "u", "newer"): ("z", False, False, 0)}
    for state in ("x", "y", "z"):
        for sort in ("s", "t"):
            rows[(state, sort, "newer")] = (state, False, True, 0)
    return Book(["x", "y", "z"], ["s", "t", "u"], "x", rows)


def great_book():
    """A book of four states and three sorts in which no key is idle, and few choices keep anything."""
    ages = ("newer", "same", "elder")
    # For each state, sort and age, in this order: the next state, whether it holds, whether it rings, the step.
    told = """a10 6  a00 5  b11 9    b01 6  d10 2  d01 6    c00 1  d00 4  a11 9
              c10 6  c10 8  d01 9    a11 4  a00 5  a10 1    d00 8  b01 8  b11 2
              a01 8  a01 4  b11 1    b10 2  b10 7  a10 9    b11 8  b01 1  c11 6
              d00 9  b11 2  d10 9    a00 9  c01 1  d11 7    b11 3  b01 6  b11 2""".split()
    keys = [(state, sort, age) for state in "abcd" for sort in "rst" for age in ages]
    rows = {key: (word[0], word[1] == "1", word[2] == "1", int(step))
            for key, word, step in zip(keys, told[::2], told[1::2])}
    return Book(["a", "b", "c", "d"], ["r", "s", "t"], "a", rows)


def ringing_book():
    """A book of one state that rings at all letters but newer ones."""
    rows = {("x", sort, age): ("x", age == "newer", age != "newer", 0)
            for sort in "abc" for age in ("newer", "same", "elder")}
    return Book(["x"], ["a", "b", "c"], "x", rows)


class ReportedTest(unittest.TestCase):
    """The two inputs at which it once took long."""

    def test_a_book_of_36_rows(self):
        book = great_book()
        self.assertEqual(len(book.rows()), 36)
        self.assertEqual(book.effect("a", "s", "elder"), ("d", False, True, 6))
        self.assertEqual(book.effect("c", "t", "newer"), ("b", True, True, 8))
        self.assertEqual(book.effect("d", "r", "same"), ("b", True, True, 2))
        keys = [("a", sort, age) for sort in ("r", "s") for age in ("elder", "newer", "same")]
        self.assertEqual(least_idle(book, [QUIET, ("lower",)], keys), [])
        self.assertEqual(slow_least(book, [QUIET, ("lower",)], keys), [])

    def test_a_book_of_one_state(self):
        keys = [("x", sort, age) for sort in "abc" for age in ("elder", "same")]
        self.assertEqual(least_idle(ringing_book(), [QUIET, ("lower",)], keys), [keys])
        self.assertEqual(least_idle(ringing_book(), [QUIET, ("lower",)], keys[::-1]), [keys])
        self.assertEqual(least_idle(ringing_book(), [QUIET], keys), [[key for key in keys if key[2] == "same"]])
        self.assertEqual(least_idle(ringing_book(), [("lower",)], keys), slow_least(ringing_book(), [("lower",)], keys))


class LeastIdleTest(unittest.TestCase):

    def test_nothing_is_broken(self):
        for rows in ([], [SHOW], [SEEN, SHOW]):
            self.assertEqual(least_idle(example_book(), [("lower",), ("once",)], rows), [[]])
            self.assertEqual(least_idle(example_book(), [], rows), [[]])
        self.assertEqual(least_idle(example_book(), (), ()), [[]])

    def test_nothing_helps(self):
        self.assertEqual(least_idle(example_book(), [("stand", [], [], [])], [SEEN, SHOW]), [])
        self.assertEqual(least_idle(example_book(), [QUIET], []), [])
        self.assertEqual(least_idle(example_book(), [QUIET], [SHOW]), [])

    def test_three_rings(self):
        rings = [("new", "show", "newer"), ("none", "show", "newer"), ("read", "show", "newer")]
        # Without the row from none, new is never reached.
        self.assertEqual(least_idle(example_book(), [QUIET], rings), [[rings[1], rings[2]]])
        self.assertEqual(least_idle(example_book(), [QUIET], list(reversed(rings))), [[rings[1], rings[2]]])
        self.assertEqual(least_idle(example_book(), [QUIET], [SEEN, SHOW]), [[SEEN, SHOW]])

    def test_a_choice_of_six_keys(self):
        keys = [(state, sort, "newer") for state in ("x", "y", "z") for sort in ("s", "t")]
        self.assertEqual(least_idle(six(), [QUIET], keys), [keys])
        self.assertEqual(least_idle(six(), [QUIET], keys[::-1]), [keys])
        self.assertEqual(least_idle(six(), [QUIET], keys[:5]), [])

    def test_choices_by_length_and_then_as_lists(self):
        keys = [("x", "u", "newer"), ("y", "u", "newer"), ("x", "s", "newer"), ("x", "t", "newer"),
                ("y", "t", "newer"), ("y", "s", "newer")]
        wishes = [("stand", [], [], ["x", "y"])]
        self.assertEqual(least_idle(six(), wishes, keys), [[("x", "u", "newer")], [("y", "u", "newer")]])
        # z is silent here, so that it may as well never be reached.
        book = six().without([("z", "s", "newer"), ("z", "t", "newer")])
        self.assertEqual(least_idle(book, [QUIET], keys), [
            [("x", "s", "newer"), ("x", "t", "newer"), ("x", "u", "newer")],
            [("x", "s", "newer"), ("x", "t", "newer"), ("y", "s", "newer"), ("y", "t", "newer")]])

    def test_more_idle_rows_may_break_a_wish(self):
        wish = ("stand", ["show", "seen"], ["gone"], ["read"])
        self.assertEqual(broken(example_book(), [wish]), [])
        self.assertEqual(broken(example_book().without([SEEN]), [wish]), [wish])
        self.assertEqual(least_idle(example_book(), [wish], [SEEN]), [[]])
        self.assertEqual(least_idle(example_book().without([SEEN]), [wish], [("new", "show", "newer")]), [])

    def test_a_choice_with_a_least_one_within_it_need_not_keep_them(self):
        again = ("read", "show", "same")
        book = with_rows(example_book(), {**example_book().rows(), again: ("read", True, True, 0)})
        wishes = [("once",), ("stand", ["show", "seen"], ["gone"], ["read"])]
        self.assertEqual(broken(book, wishes), [("once",)])
        self.assertEqual(broken(book.without([again, SEEN]), wishes), wishes[1:])
        self.assertEqual(least_idle(book, wishes, [SEEN, again]), [[again]])

    def test_all_wishes_are_kept_at_once(self):
        book = six()
        keys = [("x", "u", "newer"), ("x", "s", "newer"), ("x", "t", "newer")]
        self.assertEqual(least_idle(book, [QUIET], keys), [sorted(keys)])
        self.assertEqual(least_idle(book, [QUIET, ("stand", [], [], ["x"])], keys), [sorted(keys)])
        self.assertEqual(least_idle(book, [QUIET, ("stand", [], [], ["y", "z"])], keys), [])

    def test_books_by_chance(self):
        chance = seeded(61)
        seen = {}
        for _ in range(150):
            book = random_book(chance)
            keys = list(book.rows())
            keys = chance.sample(keys, min(len(keys), chance.randint(0, 6)))
            wishes = [chance.choice([QUIET, ("once",), ("lower",), random_wish(chance, book)])]
            wishes += [random_wish(chance, book)] * chance.randint(0, 1)
            told = least_idle(book, wishes, keys)
            self.assertEqual(told, slow_least(book, wishes, keys))
            for choice in told:
                seen[len(choice)] = seen.get(len(choice), 0) + 1
                self.assertEqual(broken(book.without(choice), wishes), [])
        for many in (0, 1, 2, 3):
            self.assertGreater(seen.get(many, 0), 1, seen)

    def test_books_that_ring_at_a_few_rows_alone(self):
        # Here many choices keep the wishes, and many that keep them have more keys than others.
        chance = seeded(62)
        seen = {}
        for _ in range(150):
            book = random_book(chance)
            rows = {key: effect[:2] + (effect[2] and chance.random() < 0.3,) + effect[3:]
                    for key, effect in book.rows().items()}
            book = with_rows(book, rows)
            keys = list(book.rows())
            keys = chance.sample(keys, min(len(keys), 6))
            wishes = [chance.choice([QUIET, ("once",), ("lower",)]), random_wish(chance, book)][:chance.randint(1, 2)]
            told = least_idle(book, wishes, keys)
            self.assertEqual(told, slow_least(book, wishes, keys))
            seen[len(told)] = seen.get(len(told), 0) + 1
        for many in (0, 1, 2, 3):
            self.assertGreater(seen.get(many, 0), 1, seen)

    def test_keys_as_lists_and_rows_as_a_tuple(self):
        for rows in ([list(SEEN), SHOW], (SHOW, list(SEEN)), (tuple(SEEN), tuple(SHOW))):
            told = least_idle(example_book(), [QUIET], rows)
            self.assertEqual(told, [[SEEN, SHOW]])
            self.assertEqual([type(part) for part in [told, told[0]] + told[0]], [list, list, tuple, tuple])

    def test_wishes_as_lists_and_tuples(self):
        for wishes in ([["quiet", ()]], (("quiet", []),), [("quiet", ()), ["once"]]):
            self.assertEqual(least_idle(example_book(), wishes, [SEEN, SHOW]), [[SEEN, SHOW]])

    def test_what_is_told_is_new_and_what_is_passed_stays(self):
        book, rows, wishes = example_book(), [list(SHOW), list(SEEN)], [["quiet", []]]
        told = least_idle(book, wishes, rows)
        told[0].clear()
        self.assertEqual(least_idle(book, wishes, rows), [[SEEN, SHOW]])
        self.assertEqual((rows, wishes, book), ([list(SHOW), list(SEEN)], [["quiet", []]], example_book()))

    def test_what_is_told_may_be_passed_on(self):
        for choice in least_idle(example_book(), [QUIET], [SEEN, SHOW]):
            self.assertEqual(least_idle(example_book(), [QUIET], choice), [choice])
            self.assertEqual(least_idle(example_book().without(choice), [QUIET], []), [[]])


class RefusedTest(unittest.TestCase):

    def bad_wish(self, wish, wishes, rows):
        with self.assertRaises(BadWish) as caught:
            least_idle(example_book(), wishes, rows)
        self.assertTrue(same_object(caught.exception.wish, wish))

    def bad_row(self, row, rows, wishes=(QUIET,)):
        with self.assertRaises(BadRow) as caught:
            least_idle(example_book(), wishes, rows)
        self.assertTrue(same_object(caught.exception.row, row))

    def test_the_first_wish_that_is_none(self):
        self.bad_wish(("quiet", ["new"]), [QUIET, ("quiet", ["new"]), None], [SHOW])
        self.bad_wish("once", ["once"], [SHOW])

    def test_wishes_come_ahead_of_rows(self):
        for rows in (None, [None], [SHOW, SHOW], [("none", "show", "elder")]):
            self.bad_wish(("once", []), [("lower",), ("once", [])], rows)

    def test_rows_that_are_no_list(self):
        for at, thing in enumerate(any_objects() + [{SHOW: True}, example_book().rows()]):
            if not isinstance(thing, (list, tuple)):
                with self.subTest(at=at):
                    self.bad_row(None, thing)
                    self.bad_row(None, thing, [])

    def test_the_first_row_that_is_none(self):
        for at, thing in enumerate(any_objects()):
            if thing in (SHOW, list(SHOW)):
                continue
            with self.subTest(at=at):
                self.bad_row(thing, [SHOW, thing, None])
                self.bad_row(thing, (thing, 7), [])
        self.bad_row(("none", "show", "elder"), [SHOW, ("none", "show", "elder"), SHOW])

    def test_rows_that_stand_twice(self):
        self.bad_row(SHOW, [SHOW, SHOW])
        self.bad_row(list(SHOW), [SEEN, SHOW, list(SHOW)])
        self.bad_row(SHOW, [SHOW, SEEN, SHOW, None], [])


if __name__ == "__main__":
    unittest.main()
