"""Pairs of devices: an elder and a newer program, and the letters on the road to both."""

from heldnotes.comparing import check_sorts
from heldnotes.devices import Device, check_letter
from heldnotes.errors import BadAt, BadDeed, NoDeed, NotSent, Sent
from heldnotes.kinds import is_int_within, is_list


def check_at(at):
    """Refuse any object that tells neither device."""
    if not is_int_within(at, 0, 1):
        raise BadAt(at)


def is_deed(thing):
    """Tell whether any object is a word of a deed and as many things behind it."""
    if not is_list(thing) or not thing:
        return False
    return len(thing) == 5 if thing[0] == "arrive" else len(thing) == 4 and thing[0] in ("send", "lose")


def check_deeds(thing):
    """Refuse any object that is no list of deeds."""
    if not is_list(thing):
        raise BadDeed(0)
    for index, part in enumerate(thing):
        if not is_deed(part):
            raise BadDeed(index)


class Pair:
    """Two devices with books of the same sorts, and one road of letters to both."""

    def __init__(self, one, other):
        check_sorts(one, other)
        self._books = (one, other)
        self._devices = [Device(one), Device(other)]
        # From each letter on the road to the pair that tells whether it came to each device since it was sent.
        self._road = {}
        # For each deed (word, at, letter) that is not taken back: the deed, and its letter's pair (or None) ahead.
        self._past = []
        # The deeds taken back, the last one behind the others.
        self._taken_back = []

    def _check(self, key, sort, number):
        """Refuse any objects that make no letter of the books."""
        check_letter(key, sort, number, self._books[0].sorts())

    def _check_sent(self, letter):
        """Refuse a letter that is not on the road."""
        if letter not in self._road:
            raise NotSent(letter)

    def send(self, key, sort, number):
        """Put a letter on the road."""
        self._check(key, sort, number)
        letter = (key, sort, number)
        if letter in self._road:
            raise Sent(letter)
        self._do_new("send", None, letter)

    def arrive(self, at, key, sort, number):
        """Let a device take a letter of the road; return whether it rings, and its badge."""
        check_at(at)
        self._check(key, sort, number)
        letter = (key, sort, number)
        self._check_sent(letter)
        return self._do_new("arrive", at, letter)

    def lose(self, key, sort, number):
        """Take a letter off the road."""
        self._check(key, sort, number)
        letter = (key, sort, number)
        self._check_sent(letter)
        self._do_new("lose", None, letter)

    def _do_new(self, word, at, letter):
        """Do a deed that can be done, behind which none can be done again; return what it tells."""
        self._taken_back = []
        return self._do(word, at, letter)

    def _do(self, word, at, letter):
        """Do a deed that can be done; return what it tells."""
        self._past.append(((word, at, letter), self._road.get(letter)))
        if word == "send":
            self._road[letter] = (False, False)
            return None
        if word == "lose":
            del self._road[letter]
            return None
        came = self._road[letter]
        self._road[letter] = (at == 0 or came[0], at == 1 or came[1])
        key, sort, number = letter
        return self._devices[at].take(key, sort, number)

    def road(self):
        """List the letters on the road, ascending."""
        return sorted(self._road)

    def device(self, at):
        """Make a twin of a device."""
        check_at(at)
        return self._devices[at].twin()

    def differ(self):
        """List, ascending, the keys of which a letter has come to a device and whose states are unlike words."""
        one, other = self._devices
        return [key for key in sorted(set(one.met() + other.met())) if one.state(key) != other.state(key)]

    def owed(self, at):
        """List, ascending, the letters of the road that have not come to a device since they were sent."""
        check_at(at)
        return [letter for letter in sorted(self._road) if not self._road[letter][at]]

    def undo(self):
        """Take the last deed back that is not taken back."""
        if not self._past:
            raise NoDeed()
        (word, at, letter), came = self._past.pop()
        if came is None:
            del self._road[letter]
        else:
            self._road[letter] = came
        if word == "arrive":
            self._devices[at].undo()
        self._taken_back.append((word, at, letter))

    def again(self):
        """Do the last deed again that was taken back."""
        if not self._taken_back:
            raise NoDeed()
        word, at, letter = self._taken_back.pop()
        self._do(word, at, letter)

    def would(self, deeds):
        """Tell the pair of the badges that there would be behind a list of deeds."""
        check_deeds(deeds)
        other = self._twin()
        for deed in deeds:
            other._do_told(deed)
        return (other._devices[0].badge(), other._devices[1].badge())

    def _twin(self):
        """A pair with the same letters at the devices and on the road, whose deeds change nothing here."""
        other = Pair(self._books[0], self._books[1])
        other._devices = [device.twin() for device in self._devices]
        other._road = {letter: self._road[letter] for letter in self._road}
        return other

    def _do_told(self, deed):
        """Do a deed of a list if it can be done."""
        if deed[0] == "send":
            self.send(deed[1], deed[2], deed[3])
        elif deed[0] == "lose":
            self.lose(deed[1], deed[2], deed[3])
        else:
            self.arrive(deed[1], deed[2], deed[3], deed[4])
