"""Books, objects of all kinds, and a slow device of plain lists, for the tests."""

import random

from heldnotes.books import Book

AGES = ("newer", "same", "elder")

EXAMPLE_STATES = ["none", "new", "read"]
EXAMPLE_SORTS = ["show", "seen", "gone"]


def example_rows():
    """The rows of the document's example, written out by hand."""
    return {
        ("none", "show", "newer"): ("new", True, True, 1),
        ("new", "show", "newer"): ("new", True, True, 0),
        ("read", "show", "newer"): ("new", True, True, 1),
        ("new", "seen", "newer"): ("read", True, False, -1),
        ("new", "seen", "same"): ("read", True, False, -1),
        ("none", "seen", "newer"): ("read", True, False, 0),
        ("read", "seen", "newer"): ("read", True, False, 0),
        ("none", "gone", "newer"): ("none", True, False, 0),
        ("new", "gone", "newer"): ("none", True, False, -1),
        ("read", "gone", "newer"): ("none", True, False, 0),
        ("none", "gone", "same"): ("none", True, False, 0),
        ("new", "gone", "same"): ("none", True, False, -1),
        ("read", "gone", "same"): ("none", True, False, 0),
    }


def example_book():
    return Book(EXAMPLE_STATES, EXAMPLE_SORTS, "none", example_rows(), worths={"new": 1})


def deep(many):
    """A list within a list, many times."""
    thing = []
    for _ in range(many):
        thing = [thing]
    return thing


def not_ints():
    """Objects that are no integers, made anew at each call."""
    return [True, False, None, "", "0", "1", "a", "whole", "newer", [], (), {}, [1], (1,), {1: 1},
            [[]], ((),), [None, {"a": [True]}], ([], {}), {"a": {"b": ()}}, deep(2000)]


def not_words():
    """Objects that are no words, made anew at each call."""
    return [0, 1, -1, 10 ** 12, -10 ** 13, 10 ** 5000, True, False, None, "", "A", "aB", "ninechars",
            "a1", "1", "a b", " ", "a ", "a_b", "a-b", "a\n", "\u00e9", "\u00aa", "\uff41", "\u03b1",
            [], (), {}, ["a"], ("a",), {"a": "a"}, [["a"]], (("a",),), [None, {"a": [1]}],
            ("none", "show", "newer"), ["none", "show", "newer"], deep(2000)]


def any_objects():
    """Objects of all kinds, made anew at each call."""
    return not_words() + ["a", "x", "none", "show", "newer", "whole", "eightchr", -9, 9, -10, 10,
                          ["none"], ("show",), {"none": 1}, {("none", "show", "newer"): 1},
                          [1, 2], (True, False), ("none", False, False, 0)]


def same_object(one, other):
    """Tell whether one is the other, or equal to it and of the same kind."""
    return one is other or (type(one) is type(other) and one == other)


def random_book(chance, wholes=True):
    """A book with many rows told, by a chance with a seed."""
    states = chance.sample(["a", "b", "c", "d"], chance.randint(1, 4))
    sorts = chance.sample(["s", "t", "u"], chance.randint(1, 3))
    steps = list(range(-9, 10)) + (["whole"] * 9 if wholes else [])
    rows = {}
    for state in states:
        for sort in sorts:
            for age in AGES:
                if chance.random() < 0.85:
                    rows[(state, sort, age)] = (chance.choice(states), chance.random() < 0.5,
                                                chance.random() < 0.5, chance.choice(steps))
    worths = {state: chance.randint(-9, 9) for state in states if chance.random() < 0.8}
    return Book(states, sorts, chance.choice(states), rows, worths=worths)


def random_wish(chance, book):
    """A wish of a book, by a chance with a seed."""
    def some(words):
        return [chance.choice(words) for _ in range(chance.randint(0, len(words)))]
    kind = chance.choice(["stand", "stand", "quiet", "lower", "once"])
    if kind == "stand":
        return (kind, some(book.sorts()), some(book.sorts()), some(book.states()))
    return (kind, some(book.sorts())) if kind == "quiet" else (kind,)


def with_rows(book, rows, **more):
    """A book with other rows, all else being the same."""
    worths = more.get("worths", {state: book.worth(state) for state in book.states()})
    return Book(more.get("states", book.states()), book.sorts(), book.first(), rows, worths=worths)


def right_book(chance):
    """A book that is right at every move, by a chance with a seed: some steps are whole, all others the difference."""
    book = random_book(chance)
    worths = {state: chance.randint(-4, 4) for state in book.states() if chance.random() < 0.8}
    rows = {key: effect[:3] + ("whole" if chance.random() < 0.2
                               else worths.get(effect[0], 0) - worths.get(key[0], 0),)
            for key, effect in book.rows().items()}
    return with_rows(book, rows, worths=worths)


def mild_book(chance):
    """A book whose steps are mostly small, or whole, or right, by a chance with a seed."""
    kind = chance.randint(0, 3)
    if kind == 0:
        return random_book(chance)
    book = right_book(chance)
    rows = {}
    for key, effect in book.rows().items():
        other = chance.choice([effect[3], effect[3], "whole", -1, 0, 1])
        rows[key] = effect[:3] + (other if chance.random() < kind / 4 else effect[3],)
    return with_rows(book, rows)


def whole_book(states=("x",), sorts=("s",)):
    """A book in which each letter at each state makes the badge right."""
    rows = {(state, sort, age): (state, True, False, "whole") for state in states for sort in sorts for age in AGES}
    return Book(list(states), list(sorts), states[0], rows)


class SlowDevice:
    """A device that works all out anew from its letters, straight from the words of [9] to [13]."""

    def __init__(self, states, sorts, first, rows, worths):
        self.first = first
        self.rows = rows
        self.worths = worths
        self.letters = []
        self.back = []

    def run(self):
        """The states, the held numbers, whether it rang at the last letter, and the badge."""
        states, held, rings, badge = {}, {}, None, 0
        for key, sort, number in self.letters:
            state = states.get(key, self.first)
            if held.get(key) is None:
                age = "newer"
            elif number > held[key]:
                age = "newer"
            elif number == held[key]:
                age = "same"
            else:
                age = "elder"
            effect = self.rows.get((state, sort, age), (state, False, False, 0))
            states[key] = effect[0]
            if effect[1]:
                held[key] = number
            rings = effect[2]
            if effect[3] == "whole":
                badge = self.right(states)
            else:
                badge += effect[3]
        return states, held, rings, badge

    def right(self, states):
        total = 0
        for key in states:
            total += self.worths.get(states[key], 0)
            total -= self.worths.get(self.first, 0)
        return total

    def take(self, letter):
        self.letters.append(letter)
        self.back = []

    def undo(self):
        self.back.append(self.letters.pop())

    def again(self):
        self.letters.append(self.back.pop())


def slow_device(book):
    """The slow device beside a book."""
    worths = {state: book.worth(state) for state in book.states()}
    return SlowDevice(book.states(), book.sorts(), book.first(), book.rows(), worths)


def seeded(seed):
    return random.Random(seed)
