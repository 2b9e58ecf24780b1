"""Courses: how a device goes from standing to standing at the letters of one key."""

from heldnotes.books import idle_effect
from heldnotes.letters import numbered, put_mark
from heldnotes.paths import shortest_path, shortest_paths

# For each place the spots at which a letter can be, ascending, each with the age of a letter there.
SPOTS = {
    "lower": (("below", "elder"), ("between", "newer"), ("held", "same"), ("newest", "newer"), ("top", "newer")),
    "newest": (("below", "elder"), ("newest", "same"), ("top", "newer")),
    "none": (("between", "newer"), ("newest", "newer"), ("top", "newer")),
}

# Ahead of the first letter there is no newest number, nor any below it.
FIRST_SPOTS = (("top", "newer"),)


def first_standing(book):
    """The standing of a key of which no letter has come."""
    return (book.first(), "none", (), False)


def spots_at(standing):
    """The pairs (spot, age), ascending, of the letters that there are at a standing."""
    return SPOTS[standing[1]] if standing[2] else FIRST_SPOTS


def spot_of(number, newest, held):
    """The spot of a letter of this number beside the newest and the held one (None: there is none)."""
    if newest is None or number > newest:
        return "top"
    if number == newest:
        return "newest"
    if held is None or number > held:
        return "between"
    return "held" if number == held else "below"


def key_at(standing, spot, sort):
    """The key (state, sort, age) of the effect of a letter of this sort at a spot."""
    ages = [age for other, age in spots_at(standing) if other == spot]
    return (standing[0], sort, ages[0])


def standing_behind(standing, spot, sort, effect):
    """The standing behind a letter of this sort at a spot."""
    state, holds, rings, _ = effect
    _, place, come, rung = standing
    if spot == "top":
        come, rung = (sort,), rings
        # What was the newest number no longer is.
        place = "lower" if place == "newest" else place
    elif spot == "newest":
        come, rung = come if sort in come else tuple(sorted(come + (sort,))), rung or rings
    if holds:
        place = "newest" if spot in ("top", "newest") else "lower"
    return (state, place, come, rung)


def move_by(standing, spot, sort, effect):
    """The move (spot, sort, behind, rings, step) of a letter with this effect."""
    return (spot, sort, standing_behind(standing, spot, sort, effect), effect[2], effect[3])


def mark_at(spot, held, order):
    """The mark of a letter at a spot, put into the order of marks if it is a new one."""
    if spot == "top":
        return put_mark(order, len(order))
    if spot == "between":
        return put_mark(order, len(order) - 1)
    if spot == "below":
        return put_mark(order, order.index(held))
    return order[-1] if spot == "newest" else held


class Course:
    """The moves that there are by a book, perhaps with more of its rows made idle."""

    def __init__(self, book, idle=()):
        self._first = first_standing(book)
        self._sorts = sorted(book.sorts())
        self._effects = book.table()
        for key in idle:
            self._effects[key] = idle_effect(key[0])
        # The moves at the standings that were asked about.
        self._moves = {}

    def first(self):
        """The first standing."""
        return self._first

    def moves_at(self, standing):
        """List the moves at a standing, ascending."""
        if standing not in self._moves:
            self._moves[standing] = [
                move_by(standing, spot, sort, self._effects[(standing[0], sort, age)])
                for spot, age in spots_at(standing) for sort in self._sorts]
        return self._moves[standing]

    def moves_along(self, row):
        """List for each letter of a row the pair of the standing ahead of it and its move."""
        standing, newest, held = self._first, None, None
        made = []
        for sort, number in row:
            spot = spot_of(number, newest, held)
            effect = self._effects[key_at(standing, spot, sort)]
            move = move_by(standing, spot, sort, effect)
            made.append((standing, move))
            standing = move[2]
            newest = number if spot == "top" else newest
            held = number if effect[1] else held
        return made

    def keys_along(self, path):
        """List the keys of the effects of these moves, from the first standing on."""
        standing = self._first
        keys = []
        for spot, sort, behind, _, _ in path:
            keys.append(key_at(standing, spot, sort))
            standing = behind
        return keys

    def row_along(self, path):
        """A row whose letters make these moves, from the first standing on."""
        held = None
        letters, order = [], []
        for move, key in zip(path, self.keys_along(path)):
            mark = mark_at(move[0], held, order)
            letters.append((move[1], mark))
            # A move does not tell whether a letter between is held; its effect does.
            held = mark if self._effects[key][1] else held
        return numbered(letters, order)

    def links_at(self, standing):
        """List the pairs (move, standing behind) at a standing."""
        return [(move, move[2]) for move in self.moves_at(standing)]

    def paths(self):
        """A dict from the standings of all rows, the nearest first, to the moves of a row with the fewest letters."""
        return shortest_paths(self._first, lambda standing: self.links_at(standing))

    def path_to(self, is_end):
        """The moves of a row with the fewest letters whose last one is an end, or None.

        is_end tells of a standing and a move at it whether this is one.
        """
        return shortest_path(self._first, lambda standing: self.links_at(standing), is_end)

    def all_moves(self):
        """A dict from the standings of all rows, the nearest first, to the moves at them."""
        return {standing: self.moves_at(standing) for standing in self.paths()}
