"""[3] to [9]: books, what they refuse and what they tell."""

import unittest

from heldnotes.books import Book, age_of
from heldnotes.errors import BadFirst, BadRow, BadSorts, BadStates, BadWorth
from tests.samples import (AGES, EXAMPLE_SORTS, EXAMPLE_STATES, any_objects, deep, example_book,
                           example_rows, not_ints, not_words, random_book, same_object, seeded)

KEY = ("x", "s", "newer")


def hashable(things):
    """Those of the things that can be keys of a dict."""
    kept = []
    for thing in things:
        try:
            hash(thing)
        except TypeError:
            continue
        kept.append(thing)
    return kept


def small(rows, **more):
    """A book of states x and y and sorts s and t."""
    return Book(["x", "y"], ["s", "t"], "x", rows, **more)


class RefusedTest(unittest.TestCase):

    def refused(self, error, attribute, thing, *told, **more):
        with self.assertRaises(error) as caught:
            Book(*told, **more)
        self.assertTrue(same_object(getattr(caught.exception, attribute), thing))

    def test_states_of_any_kind(self):
        for at, thing in enumerate(any_objects()):
            if thing in (["a"], ("a",), ["none"], ("show",), ["none", "show", "newer"],
                         ("none", "show", "newer")):
                continue
            with self.subTest(at=at):
                self.refused(BadStates, "words", thing, thing, ["s"], "a", {})

    def test_states_with_any_word(self):
        for at, thing in enumerate(not_words()):
            for words in ([thing], (thing,), ["a", thing], [thing, "b"], ("a", "b", "c", thing)):
                with self.subTest(at=at):
                    self.refused(BadStates, "words", words, words, ["s"], "a", {})

    def test_states_too_few_too_many_or_twice(self):
        for words in ([], (), ["a", "b", "c", "d", "e"], ["a", "a"], ("a", "b", "a"), ["a", "b", "c", "c"],
                      "ab", "a", {"a": 1}, {}):
            self.refused(BadStates, "words", words, words, ["s"], "a", {})

    def test_sorts_of_any_kind(self):
        for at, thing in enumerate(any_objects()):
            if thing in (["a"], ("a",), ["none"], ("show",), ["none", "show", "newer"],
                         ("none", "show", "newer")):
                continue
            with self.subTest(at=at):
                self.refused(BadSorts, "words", thing, ["a"], thing, "a", {})

    def test_sorts_with_any_word(self):
        for at, thing in enumerate(not_words()):
            for words in ([thing], (thing,), ["s", thing], [thing, "s"], ("s", "t", thing)):
                with self.subTest(at=at):
                    self.refused(BadSorts, "words", words, ["a"], words, "a", {})

    def test_sorts_too_few_too_many_or_twice(self):
        for words in ([], (), ["s", "t", "u", "v"], ["s", "s"], ("s", "t", "s"), "st", "s", {"s": 1}):
            self.refused(BadSorts, "words", words, ["a"], words, "a", {})

    def test_as_many_words_as_can_be(self):
        book = Book(["a", "b", "c", "abcdefgh"], ["s", "t", "stuvwxyz"], "c", {})
        self.assertEqual(book.states(), ["a", "b", "c", "abcdefgh"])
        self.assertEqual(book.sorts(), ["s", "t", "stuvwxyz"])
        self.assertEqual(Book(["z"], ["a"], "z", {}).states(), ["z"])

    def test_first_of_any_kind(self):
        for at, thing in enumerate(any_objects()):
            if thing == "x":
                continue
            with self.subTest(at=at):
                self.refused(BadFirst, "word", thing, ["x", "y"], ["s", "t"], thing, {})

    def test_first_is_no_sort_and_no_list_of_states(self):
        for thing in ("s", "z", ["x"], ("x",), ["x", "y"], {"x": 1}, "xy", ""):
            self.refused(BadFirst, "word", thing, ["x", "y"], ["s", "t"], thing, {})

    def test_rows_that_are_no_dict(self):
        for at, thing in enumerate(any_objects() + [[(KEY, ("y", True, True, 1))], [KEY]]):
            if isinstance(thing, dict):
                continue
            with self.subTest(at=at):
                self.refused(BadRow, "row", None, ["x", "y"], ["s", "t"], "x", thing)

    def test_rows_with_any_key(self):
        wrong = [("x", "s"), ("x", "s", "newer", "same"), ("s", "x", "newer"), ("newer", "s", "x"),
                 ("z", "s", "newer"), ("x", "u", "newer"), ("x", "s", "older"), ("x", "s", "Newer"),
                 ("x", "s", None), (None, "s", "newer"), ("x", 1, "newer"), ("x", True, "same"),
                 ("x", ("s",), "newer"), (("x", "s", "newer"),), ("y", "y", "newer"), ("s", "s", "newer")]
        for at, key in enumerate(hashable(any_objects()) + wrong):
            with self.subTest(at=at):
                self.refused(BadRow, "row", key, ["x", "y"], ["s", "t"], "x", {key: ("x", False, False, 0)})

    def test_rows_with_an_effect_of_any_kind(self):
        for at, effect in enumerate(any_objects()):
            with self.subTest(at=at):
                self.refused(BadRow, "row", KEY, ["x", "y"], ["s", "t"], "x", {KEY: effect})

    def test_effects_with_any_part(self):
        for at, thing in enumerate(any_objects() + ["s", "WHOLE", ["whole"], 10 ** 9, -10 ** 9]):
            with self.subTest(at=at):
                if thing not in ("x", "y"):
                    self.refused(BadRow, "row", KEY, ["x", "y"], ["s"], "x", {KEY: (thing, True, True, 1)})
                if not isinstance(thing, bool):
                    self.refused(BadRow, "row", KEY, ["x", "y"], ["s"], "x", {KEY: ("x", thing, True, 1)})
                    self.refused(BadRow, "row", KEY, ["x", "y"], ["s"], "x", {KEY: ("x", True, thing, 1)})
                is_step = type(thing) is int and thing in range(-9, 10)
                if not is_step and not (type(thing) is str and thing == "whole"):
                    self.refused(BadRow, "row", KEY, ["x", "y"], ["s"], "x", {KEY: ("x", True, True, thing)})

    def test_effects_too_short_or_too_long(self):
        for effect in ((), ("x",), ("x", True, True), ("x", True, True, 1, 1), ["x", True, True], "xxxx",
                       {"x": 1, True: 2, False: 3, 1: 4}):
            self.refused(BadRow, "row", KEY, ["x", "y"], ["s", "t"], "x", {KEY: effect})

    def test_steps_at_the_ends(self):
        for step in list(range(-9, 10)) + ["whole"]:
            self.assertEqual(small({KEY: ("y", True, False, step)}).effect(*KEY), ("y", True, False, step))
        for step in (-10, 10):
            self.refused(BadRow, "row", KEY, ["x", "y"], ["s", "t"], "x", {KEY: ("y", True, False, step)})

    def test_first_bad_row_in_their_order(self):
        fine = ("y", True, True, 1)
        self.refused(BadRow, "row", 7, ["x", "y"], ["s"], "x", {KEY: fine, 7: fine, "a": fine})
        self.refused(BadRow, "row", "b", ["x", "y"], ["s"], "x", {"b": fine, 7: fine, "a": fine})
        self.refused(BadRow, "row", ("y", "s", "same"), ["x", "y"], ["s"], "x",
                     {KEY: fine, ("y", "s", "same"): None, ("x", "s", "elder"): None, "a": fine})
        self.refused(BadRow, "row", None, ["x", "y"], ["s"], "x", {KEY: fine, None: fine, 1: fine})

    def test_worths_that_are_no_dict(self):
        for at, thing in enumerate(any_objects() + [[("x", 1)], ["x"]]):
            if isinstance(thing, dict) or thing is None:
                continue
            with self.subTest(at=at):
                self.refused(BadWorth, "word", None, ["x", "y"], ["s"], "x", {}, worths=thing)

    def test_worths_of_any_key(self):
        for at, word in enumerate(hashable(any_objects()) + ["s", "z", ("x",)]):
            if word == "x":
                continue
            for worth in (0, 1, None):
                with self.subTest(at=at):
                    self.refused(BadWorth, "word", word, ["x", "y"], ["s"], "x", {}, worths={word: worth})

    def test_worths_of_any_kind(self):
        for at, worth in enumerate(not_ints() + [-10, 10, 10 ** 12, -10 ** 5000, 10 ** 5000]):
            with self.subTest(at=at):
                self.refused(BadWorth, "word", "y", ["x", "y"], ["s"], "x", {}, worths={"y": worth})

    def test_worths_at_the_ends(self):
        for worth in range(-9, 10):
            self.assertEqual(small({}, worths={"y": worth}).worth("y"), worth)

    def test_first_bad_worth_in_their_order(self):
        self.refused(BadWorth, "word", "z", ["x", "y"], ["s"], "x", {}, worths={"y": 1, "z": 1, "a": 1})
        self.refused(BadWorth, "word", "y", ["x", "y"], ["s"], "x", {}, worths={"y": 10, "a": 1, "x": 10})
        self.refused(BadWorth, "word", None, ["x", "y"], ["s"], "x", {}, worths={"x": 2, None: 1, "a": 1})

    def test_the_first_error_in_the_order_of_the_text(self):
        told = [["x", "x"], ["s", "s"], "z", {7: 8}]
        for at, (error, fine) in enumerate([(BadStates, ["x", "y"]), (BadSorts, ["s"]), (BadFirst, "x"),
                                            (BadRow, {})]):
            with self.assertRaises(error):
                Book(*told, worths={"z": 1})
            told[at] = fine
        with self.assertRaises(BadWorth):
            Book(*told, worths={"z": 1})
        self.assertEqual(Book(*told).states(), ["x", "y"])

    def test_worths_by_place_are_refused(self):
        self.assertRaises(TypeError, Book, ["x"], ["s"], "x", {}, {})

    def test_refused_things_stay_as_they_were(self):
        states, sorts, rows, worths = ["x", "y"], ["s"], {KEY: ["y", True, True, 10]}, {"z": 1}
        self.assertRaises(BadRow, Book, states, sorts, "x", rows, worths=worths)
        self.assertEqual((states, sorts, rows, worths),
                         (["x", "y"], ["s"], {KEY: ["y", True, True, 10]}, {"z": 1}))


class ToldTest(unittest.TestCase):

    def test_words_as_they_were_passed(self):
        book = Book(("read", "none", "new"), ("show", "gone", "seen"), "new", {})
        self.assertEqual(book.states(), ["read", "none", "new"])
        self.assertEqual(book.sorts(), ["show", "gone", "seen"])
        self.assertEqual(book.first(), "new")
        self.assertIs(type(book.states()), list)
        self.assertIs(type(book.sorts()), list)

    def test_words_may_be_states_and_sorts_and_ages_at_once(self):
        book = Book(["newer", "whole"], ["newer", "whole"], "whole",
                    {("whole", "newer", "newer"): ("newer", True, True, "whole")})
        self.assertEqual(book.effect("whole", "newer", "newer"), ("newer", True, True, "whole"))
        self.assertEqual(book.effect("newer", "whole", "newer"), ("newer", False, False, 0))

    def test_worths(self):
        book = Book(["x", "y", "z"], ["s"], "x", {}, worths={"y": -9, "z": 0})
        self.assertEqual([book.worth("x"), book.worth("y"), book.worth("z")], [0, -9, 0])
        for worths in (None, {}):
            self.assertEqual(small({}, worths=worths).worth("x"), 0)
        self.assertEqual(small({}).worth("y"), 0)

    def test_worth_of_any_object(self):
        book = small({}, worths={"x": 1})
        for at, thing in enumerate(any_objects() + ["s", "z", ["x"], ("x",)]):
            if thing == "x":
                continue
            with self.subTest(at=at):
                with self.assertRaises(BadRow) as caught:
                    book.worth(thing)
                self.assertTrue(same_object(caught.exception.row, thing))

    def test_effects_of_the_example(self):
        book, rows = example_book(), example_rows()
        for state in EXAMPLE_STATES:
            for sort in EXAMPLE_SORTS:
                for age in AGES:
                    told = rows.get((state, sort, age), (state, False, False, 0))
                    self.assertEqual(book.effect(state, sort, age), told)

    def test_kinds_of_an_effect(self):
        book = small({KEY: ["y", True, False, -3]})
        for key in (KEY, ("y", "t", "elder")):
            effect = book.effect(*key)
            self.assertEqual([type(part) for part in effect], [str, bool, bool, int])
            self.assertIs(type(effect), tuple)

    def test_effect_of_any_object(self):
        book = small({KEY: ("y", True, True, 1)})
        for at, thing in enumerate(any_objects() + ["u", "older", ["s"], ["newer"], deep(9)]):
            for place, words in ((0, "xy"), (1, "st"), (2, ("newer", "same", "elder"))):
                if type(thing) is str and thing in tuple(words):
                    continue
                key = list(KEY)
                key[place] = thing
                with self.subTest(at=at, place=place):
                    with self.assertRaises(BadRow) as caught:
                        book.effect(*key)
                    self.assertIs(type(caught.exception.row), tuple)
                    self.assertEqual(len(caught.exception.row), 3)
                    for one, other in zip(caught.exception.row, key):
                        self.assertTrue(same_object(one, other))

    def test_arguments_by_name(self):
        book = Book(rows={KEY: ("y", True, True, 1)}, first="x", sorts=["s"], states=["x", "y"],
                    worths={"y": 2})
        self.assertEqual(book.worth(state="y"), 2)
        self.assertEqual(book.effect(age="newer", sort="s", state="x"), ("y", True, True, 1))
        self.assertEqual(book.without(rows=[KEY]).rows(), {})

    def test_rows_are_those_that_are_not_idle(self):
        told = {}
        for state in ("x", "y"):
            for sort in ("s", "t"):
                for age in AGES:
                    told[(state, sort, age)] = (state, False, False, 0)
        self.assertEqual(small(told).rows(), {})
        for effect in (("y", False, False, 0), ("x", True, False, 0), ("x", False, True, 0),
                       ("x", False, False, 1), ("x", False, False, -1), ("x", False, False, "whole")):
            for age in AGES:
                key = ("x", "t", age)
                book = small({**told, key: effect})
                self.assertEqual(book.rows(), {key: effect})
                self.assertEqual(book, small({key: effect}))
                self.assertNotEqual(book, small({}))

    def test_rows_ascend_by_keys(self):
        rows = example_rows()
        for keys in (list(rows), list(reversed(list(rows))), sorted(rows), sorted(rows, reverse=True)):
            book = Book(EXAMPLE_STATES, EXAMPLE_SORTS, "none", {key: rows[key] for key in keys})
            self.assertEqual(list(book.rows().items()), sorted(rows.items(), key=lambda item: item[0]))

    def test_kinds_of_rows(self):
        told = small({KEY: ["y", True, True, 9], ("y", "s", "same"): ["x", False, False, "whole"]}).rows()
        self.assertIs(type(told), dict)
        for key in told:
            self.assertIs(type(key), tuple)
            self.assertIs(type(told[key]), tuple)
        self.assertEqual(told, {KEY: ("y", True, True, 9), ("y", "s", "same"): ("x", False, False, "whole")})

    def test_tuples_do_for_lists_and_the_other_way_about(self):
        one = Book(("x", "y"), ("s", "t"), "x", {KEY: ("y", True, True, 1)}, worths={"y": 1})
        other = Book(["x", "y"], ["s", "t"], "x", {KEY: ["y", True, True, 1]}, worths={"y": 1})
        self.assertEqual(one, other)
        self.assertEqual(one.rows(), other.rows())
        self.assertEqual(one.effect(*KEY), other.effect(*KEY))

    def test_what_is_told_is_new_each_time(self):
        book = example_book()
        for told in (book.states, book.sorts, book.rows):
            first, second = told(), told()
            self.assertIsNot(first, second)
            first.clear()
            self.assertEqual(told(), second)
        book.states().append("more")
        book.rows()[KEY] = None
        self.assertEqual(book, example_book())
        self.assertRaises(BadRow, book.worth, "more")

    def test_what_is_passed_may_change_later(self):
        states, sorts, rows, worths = ["x", "y"], ["s"], {KEY: ["y", True, True, 1]}, {"y": 2}
        book = Book(states, sorts, "x", rows, worths=worths)
        self.assertEqual((states, sorts, rows, worths),
                         (["x", "y"], ["s"], {KEY: ["y", True, True, 1]}, {"y": 2}))
        fresh = Book(["x", "y"], ["s"], "x", {KEY: ("y", True, True, 1)}, worths={"y": 2})
        rows[KEY][0] = "x"
        rows[("y", "s", "same")] = ("x", True, True, 1)
        states[1] = "z"
        states.append("w")
        sorts.clear()
        worths["x"] = 1
        worths["y"] = 5
        self.assertEqual(book, fresh)
        self.assertEqual(book.states(), ["x", "y"])
        self.assertEqual(book.sorts(), ["s"])
        self.assertEqual(book.rows(), fresh.rows())
        self.assertEqual([book.worth("x"), book.worth("y")], [0, 2])
        self.assertRaises(BadRow, book.worth, "z")

    def test_what_a_book_tells_makes_an_equal_book(self):
        chance = seeded(1)
        for _ in range(200):
            book = random_book(chance)
            worths = {state: book.worth(state) for state in book.states()}
            again = Book(book.states(), book.sorts(), book.first(), book.rows(), worths=worths)
            self.assertTrue(book == again)
            self.assertEqual(again.rows(), book.rows())
            every = {(state, sort, age): book.effect(state, sort, age)
                     for state in reversed(book.states()) for sort in book.sorts() for age in AGES}
            full = Book(sorted(book.states()), sorted(book.sorts()), book.first(), every, worths=worths)
            self.assertTrue(book == full)
            self.assertEqual(list(full.rows().items()), list(book.rows().items()))


class EqualTest(unittest.TestCase):

    def alike(self, one, other):
        self.assertIs(one == other, True)
        self.assertIs(other == one, True)
        self.assertIs(one != other, False)

    def unlike(self, one, other):
        self.assertIs(one == other, False)
        self.assertIs(other == one, False)
        self.assertIs(one != other, True)

    def test_equal_in_any_order(self):
        rows = example_rows()
        back = {key: rows[key] for key in reversed(list(rows))}
        one = Book(["none", "new", "read"], ["show", "seen", "gone"], "none", rows, worths={"new": 1})
        other = Book(["read", "none", "new"], ["gone", "show", "seen"], "none", back, worths={"new": 1})
        self.alike(one, other)
        self.alike(one, one)
        self.alike(one, example_book())

    def test_idle_effects_and_worths_of_0_do_not_count(self):
        rows = example_rows()
        rows[("none", "seen", "same")] = ("none", False, False, 0)
        rows[("new", "show", "elder")] = ["new", False, False, 0]
        told = Book(EXAMPLE_STATES, EXAMPLE_SORTS, "none", rows, worths={"read": 0, "new": 1, "none": 0})
        self.alike(told, example_book())

    def test_each_part_counts(self):
        rows = {KEY: ("y", True, True, 1)}
        book = small(rows, worths={"y": 1})
        self.alike(book, small(rows, worths={"y": 1}))
        self.unlike(book, Book(["x", "y", "z"], ["s", "t"], "x", rows, worths={"y": 1}))
        self.unlike(book, Book(["x", "y"], ["s", "t", "u"], "x", rows, worths={"y": 1}))
        self.unlike(book, Book(["x", "y"], ["s"], "x", rows, worths={"y": 1}))
        self.unlike(book, Book(["x", "y"], ["s", "u"], "x", rows, worths={"y": 1}))
        self.unlike(book, Book(["x", "y"], ["s", "t"], "y", rows, worths={"y": 1}))
        self.unlike(book, small(rows))
        self.unlike(book, small(rows, worths={"y": 2}))
        self.unlike(book, small(rows, worths={"x": 1}))
        self.unlike(book, small(rows, worths={"y": 1, "x": -1}))
        self.unlike(book, small({}, worths={"y": 1}))
        self.unlike(book, small({("y", "s", "newer"): ("y", True, True, 1)}, worths={"y": 1}))
        self.unlike(book, small({**rows, ("x", "t", "same"): ("y", False, False, 0)}, worths={"y": 1}))
        for effect in (("x", True, True, 1), ("y", False, True, 1), ("y", True, False, 1),
                       ("y", True, True, 0), ("y", True, True, -1), ("y", True, True, "whole")):
            self.unlike(book, small({KEY: effect}, worths={"y": 1}))

    def test_idle_states_count(self):
        self.unlike(Book(["x", "y"], ["s"], "x", {}), Book(["x", "z"], ["s"], "x", {}))

    def test_words_that_are_states_of_one_and_sorts_of_the_other(self):
        self.unlike(Book(["x", "y"], ["s"], "x", {}), Book(["x", "s"], ["y"], "x", {}))

    def test_a_book_equals_nothing_else(self):
        book = example_book()
        others = any_objects() + [book.rows(), book.states(), book.sorts(), book.first(), [book], (book,),
                                  {"book": book}, Book, object()]
        for at, thing in enumerate(others):
            with self.subTest(at=at):
                self.unlike(book, thing)


class AgeTest(unittest.TestCase):

    def test_newer_if_nothing_is_held(self):
        for number in (-10 ** 12, -1, 0, 1, 10 ** 12):
            self.assertEqual(age_of(number, None), "newer")

    def test_beside_a_held_number(self):
        for held in (-10 ** 12, -1, 0, 1, 7, 10 ** 12 - 1):
            self.assertEqual(age_of(held + 1, held), "newer")
            self.assertEqual(age_of(held + 10 ** 12, held), "newer")
            self.assertEqual(age_of(held, held), "same")
            self.assertEqual(age_of(held - 1, held), "elder")
            self.assertEqual(age_of(held - 10 ** 12, held), "elder")


if __name__ == "__main__":
    unittest.main()
