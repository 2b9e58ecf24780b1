"""Books: the finite tables that devices go by."""

from heldnotes.errors import BadFirst, BadRow, BadSorts, BadStates, BadWorth
from heldnotes.kinds import is_int_within, is_list, is_word_list

AGES = ("newer", "same", "elder")
WHOLE = "whole"


def age_of(number, held):
    """Tell the age of a letter of this number beside the held one (None: nothing is held)."""
    if held is None or number > held:
        return "newer"
    return "same" if number == held else "elder"


def idle_effect(state):
    """The effect of a key with this state that a book tells nothing of."""
    return (state, False, False, 0)


def is_key(thing, states, sorts):
    """Tell whether any object is a key (state, sort, age) of a book with these words."""
    return (is_list(thing) and len(thing) == 3
            and thing[0] in states and thing[1] in sorts and thing[2] in AGES)


def is_step(thing):
    """Tell whether any object is a step of a badge."""
    return is_int_within(thing, -9, 9) or thing == WHOLE


def is_effect(thing, states):
    """Tell whether any object is an effect (next, holds, rings, step) in a book with these states."""
    return (is_list(thing) and len(thing) == 4
            and thing[0] in states and isinstance(thing[1], bool)
            and isinstance(thing[2], bool) and is_step(thing[3]))


def told_effects(rows, states, sorts):
    """A new dict of the effects in rows that are not idle, ascending by keys."""
    if not isinstance(rows, dict):
        raise BadRow(None)
    for key in rows:
        if not is_key(key, states, sorts) or not is_effect(rows[key], states):
            raise BadRow(key)
    effects = {key: tuple(rows[key]) for key in sorted(rows)}
    return {key: effects[key] for key in effects if effects[key] != idle_effect(key[0])}


def told_worths(worths, states):
    """A new dict of the worths that are not 0."""
    if worths is None:
        return {}
    if not isinstance(worths, dict):
        raise BadWorth(None)
    for word in worths:
        if word not in states or not is_int_within(worths[word], -9, 9):
            raise BadWorth(word)
    return {word: worths[word] for word in worths if worths[word] != 0}


class Book:
    """What a device does at a letter; a book never changes."""

    def __init__(self, states, sorts, first, rows, *, worths=None):
        if not is_word_list(states, 4):
            raise BadStates(states)
        if not is_word_list(sorts, 3):
            raise BadSorts(sorts)
        if first not in states:
            raise BadFirst(first)
        self._states = list(states)
        self._sorts = list(sorts)
        self._first = first
        self._effects = told_effects(rows, states, sorts)
        self._worths = told_worths(worths, states)
        # All that makes books equal, with the order of the words left out.
        self._traits = (sorted(states), sorted(sorts), first, self._effects, self._worths)

    def __eq__(self, other):
        return isinstance(other, Book) and self._traits == other._traits

    def states(self):
        """List the states as they were passed."""
        return list(self._states)

    def sorts(self):
        """List the sorts as they were passed."""
        return list(self._sorts)

    def first(self):
        """Tell the state of a key of which no letter has come."""
        return self._first

    def worth(self, state):
        """Tell what a key in this state counts in a right badge."""
        if state not in self._states:
            raise BadRow(state)
        return self._worths.get(state, 0)

    def effect(self, state, sort, age):
        """Tell the effect (next, holds, rings, step) of a key."""
        key = (state, sort, age)
        if not is_key(key, self._states, self._sorts):
            raise BadRow(key)
        return self._effects.get(key, idle_effect(state))

    def rows(self):
        """Tell the dict of all effects that are not idle, ascending by keys."""
        return {key: self._effects[key] for key in self._effects}

    def table(self):
        """A new dict of the effects of all keys, the idle ones too."""
        keys = [(state, sort, age) for state in self._states for sort in self._sorts for age in AGES]
        return {key: self._effects.get(key, idle_effect(key[0])) for key in keys}

    def without(self, rows):
        """Make a new book in which the effects of these keys are idle."""
        if not is_list(rows):
            raise BadRow(None)
        left = self.rows()
        for row in rows:
            # A key that stands twice is no longer there the second time.
            if not is_key(row, self._states, self._sorts) or tuple(row) not in left:
                raise BadRow(row)
            del left[tuple(row)]
        return Book(self._states, self._sorts, self._first, left, worths=self._worths)
