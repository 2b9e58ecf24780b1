"""Drifts: how the error of one key's badge changes from letter to letter.

The FOOTING of a standing is what the effects of letters hang on: the state, the place, and whether something
has come. Standings with the same footing have the same moves, but for what these tell of the newest number.
"""

from heldnotes.books import WHOLE
from heldnotes.courses import Course


def footing_of(standing):
    """The footing of a standing."""
    return (standing[0], standing[1], standing[2] != ())


def footed(course):
    """A dict from the footings of the standings of all rows to one of these standings each."""
    first = course.first()
    told = {footing_of(first): first}
    further = [first]
    while further:
        ahead = further.pop()
        for move in course.moves_at(ahead):
            behind = move[2]
            if footing_of(behind) not in told:
                told[footing_of(behind)] = behind
                further.append(behind)
    return told


def worths_of(book):
    """A dict of the worths of all states."""
    return {state: book.worth(state) for state in book.states()}


def change_by(worths, ahead, move):
    """What a move from the standing ahead changes the error by, or None if it is a whole."""
    step = move[4]
    return None if step == WHOLE else step + worths[ahead[0]] - worths[move[2][0]]


class Drift:
    """The changes of the error by the moves of a book; the greatest ones if up, else the least ones, negated.

    So what is told of the greatest errors and means goes for the least ones, too.
    """

    def __init__(self, book, up):
        self._course = Course(book)
        self._worths = worths_of(book)
        self._up = up
        self._standings = footed(self._course)
        # The footings behind rows of no letter and behind wholes, each with the error there.
        self.starts = {footing_of(self._course.first()): 0}
        # From each footing to the pairs (footing behind, greatest change) of its moves that are no wholes.
        self.links = {}
        for footing in self._standings:
            self._link(footing)

    def _link(self, footing):
        """Note what the moves from a footing do."""
        changes = {}
        ahead = self._standings[footing]
        for move in self._course.moves_at(ahead):
            behind = footing_of(move[2])
            change = self._change(ahead, move)
            if change is None:
                self.starts[behind] = 0
            else:
                changes[behind] = max(change, changes.get(behind, change))
        self.links[footing] = list(changes.items())

    def _change(self, ahead, move):
        """The change by a move, negated if not up; None if it is a whole."""
        change = change_by(self._worths, ahead, move)
        return change if self._up or change is None else -change

    def ring_along(self, steps):
        """A ring whose moves go along steps, a dict from some footings to one link each."""
        standing = self._standings[list(steps)[0]]
        made, seen = [], {}
        # A footing may come again with another standing, so the ring is closed only by a standing.
        while standing not in seen:
            seen[standing] = len(made)
            made.append(self._move_along(standing, steps[footing_of(standing)]))
            standing = made[-1][2]
        return made[seen[standing]:]

    def _move_along(self, ahead, link):
        """The first move at a standing that goes along a link."""
        fitting = [move for move in self._course.moves_at(ahead)
                   if (footing_of(move[2]), self._change(ahead, move)) == link]
        return fitting[0]
