"""Devices: what letters of many keys make of states, held numbers and a badge."""

from heldnotes.books import WHOLE, age_of
from heldnotes.errors import BadKey, BadNumber, BadSort, NoLetter
from heldnotes.kinds import is_int, is_word


def check_key(key):
    """Refuse any object that is no key of letters."""
    if not is_word(key):
        raise BadKey(key)


def check_letter(key, sort, number, sorts):
    """Refuse any objects that make no letter of these sorts."""
    check_key(key)
    if sort not in sorts:
        raise BadSort(sort)
    if not is_int(number):
        raise BadNumber(number)


class Device:
    """A state and a held number for each key, and a badge over all keys, by a book."""

    def __init__(self, book):
        self._book = book
        # From each key of which a letter has come to the pair (state, held number).
        self._cells = {}
        self._badge = 0
        # For each letter taken: the letter, and its key's pair (or None) and the badge ahead of it.
        self._past = []
        # The letters taken back, the last one behind the others.
        self._taken_back = []

    def take(self, key, sort, number):
        """Take a letter; return whether the device rings, and the badge."""
        check_letter(key, sort, number, self._book.sorts())
        rings = self._follow(key, sort, number)
        self._taken_back = []
        return rings, self._badge

    def _follow(self, key, sort, number):
        """Do what the book says of a letter; return whether the device rings."""
        state, held = self._cell(key)
        behind, holds, rings, step = self._book.effect(state, sort, age_of(number, held))
        self._past.append(((key, sort, number), self._cells.get(key), self._badge))
        self._cells[key] = (behind, number if holds else held)
        # What is right counts the state behind the letter, so it is asked only now.
        self._badge = self._right() if step == WHOLE else self._badge + step
        return rings

    def _cell(self, key):
        """The pair (state, held number) of a key."""
        return self._cells.get(key, (self._book.first(), None))

    def _right(self):
        """The badge that is right now."""
        rest = self._book.worth(self._book.first())
        return sum([self._book.worth(state) - rest for state, _ in self._cells.values()])

    def state(self, key):
        """Tell the state of a key."""
        check_key(key)
        return self._cell(key)[0]

    def held(self, key):
        """Tell the held number of a key, or None."""
        check_key(key)
        return self._cell(key)[1]

    def met(self):
        """List the keys of which a letter has come, ascending."""
        return sorted(self._cells)

    def badge(self):
        """Tell the badge now."""
        return self._badge

    def error(self):
        """Tell the badge less what is right."""
        return self._badge - self._right()

    def letters(self):
        """List the letters taken, and not taken back, as (key, sort, number)."""
        return [took[0] for took in self._past]

    def undo(self):
        """Take back the last letter that is not taken back; return the badge."""
        if not self._past:
            raise NoLetter()
        letter, cell, self._badge = self._past.pop()
        if cell is None:
            del self._cells[letter[0]]
        else:
            self._cells[letter[0]] = cell
        self._taken_back.append(letter)
        return self._badge

    def again(self):
        """Take anew the last letter that was taken back; return the badge."""
        if not self._taken_back:
            raise NoLetter()
        key, sort, number = self._taken_back.pop()
        self._follow(key, sort, number)
        return self._badge

    def twin(self):
        """Make a device with the same book and letters, at which none can be taken anew."""
        other = Device(self._book)
        for key, sort, number in self.letters():
            other.take(key, sort, number)
        return other
