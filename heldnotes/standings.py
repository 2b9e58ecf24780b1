"""Standings: where a device can stand behind the letters of one key, and how it moves on."""

from heldnotes.errors import BadLetter, BadStanding
from heldnotes.letters import bad_index, numbered, put_mark
from heldnotes.paths import shortest_paths

PLACES = ("lower", "newest", "none")

# The spots of letters at each place, ascending, if something has come.
SPOTS = {
    "lower": ("below", "between", "held", "newest", "top"),
    "newest": ("below", "newest", "top"),
    "none": ("between", "newest", "top"),
}


def first_standing(book):
    """The standing of a key of which no letter has come."""
    return (book.first(), "none", (), False)


def is_standing(book, thing):
    """Tell whether any object has the form of a standing."""
    if not isinstance(thing, tuple) or len(thing) != 4:
        return False
    state, place, come, rung = thing
    if state not in book.states() or place not in PLACES:
        return False
    if not isinstance(come, tuple) or not isinstance(rung, bool):
        return False
    if not come:
        return thing == first_standing(book)
    return list(come) == [sort for sort in sorted(book.sorts()) if sort in come]


def check_standing(book, thing):
    """Refuse any object that has not the form of a standing."""
    if not is_standing(book, thing):
        raise BadStanding(thing)


def spots_at(standing):
    """The spots, ascending, at which a letter can be."""
    place, come = standing[1], standing[2]
    return SPOTS[place] if come else ("top",)


def spot_of(number, newest, held):
    """The spot of a letter of this number beside the newest and the held one (None: there is none)."""
    if newest is None or number > newest:
        return "top"
    if number == newest:
        return "newest"
    if held is None or number > held:
        return "between"
    return "held" if number == held else "below"


def age_at(standing, spot):
    """The age of a letter at a spot."""
    if spot == "newest":
        return "same" if standing[1] == "newest" else "newer"
    if spot == "held":
        return "same"
    return "elder" if spot == "below" else "newer"


def effect_at(book, standing, spot, sort):
    """The effect of a letter of this sort at a spot."""
    return book.effect(standing[0], sort, age_at(standing, spot))


def standing_behind(standing, spot, sort, effect):
    """The standing behind a letter of this sort at a spot."""
    state, holds, rings, _ = effect
    _, place, come, rung = standing
    if spot == "top":
        come, rung = (sort,), rings
        # What was the newest number no longer is.
        place = "lower" if place == "newest" else place
    elif spot == "newest":
        come, rung = tuple(sorted(set(come + (sort,)))), rung or rings
    if holds:
        place = "newest" if spot in ("top", "newest") else "lower"
    return (state, place, come, rung)


def move_by(standing, spot, sort, effect):
    """The move (spot, sort, behind, rings, step) of a letter with this effect."""
    return (spot, sort, standing_behind(standing, spot, sort, effect), effect[2], effect[3])


def moves_at(book, standing):
    """List the moves at a standing, ascending."""
    return [move_by(standing, spot, sort, effect_at(book, standing, spot, sort))
            for spot in spots_at(standing) for sort in sorted(book.sorts())]


def moves(book, standing):
    """List the moves (spot, sort, behind, rings, step) at any object that is a standing, ascending."""
    check_standing(book, standing)
    return moves_at(book, standing)


def moves_along(book, row):
    """List for each letter of a row the pair of the standing ahead of it and its move."""
    standing, newest, held = first_standing(book), None, None
    made = []
    for sort, number in row:
        spot = spot_of(number, newest, held)
        effect = effect_at(book, standing, spot, sort)
        move = move_by(standing, spot, sort, effect)
        made.append((standing, move))
        standing = move[2]
        newest = number if spot == "top" else newest
        held = number if effect[1] else held
    return made


def standing_of(book, row):
    """Tell the standing behind a row."""
    index = bad_index(row, book.sorts())
    if index is not None:
        raise BadLetter(index)
    made = moves_along(book, row)
    return made[-1][1][2] if made else first_standing(book)


def paths_of(book):
    """A dict from the standings of all rows, the nearest first, to the moves of a row with the fewest letters."""
    return shortest_paths(first_standing(book),
                          lambda standing: [(move, move[2]) for move in moves_at(book, standing)])


def mark_at(spot, held, order):
    """The mark of a letter at a spot, put into the order of marks if it is a new one."""
    if spot == "top":
        return put_mark(order, len(order))
    if spot == "between":
        return put_mark(order, len(order) - 1)
    if spot == "below":
        return put_mark(order, order.index(held))
    return order[-1] if spot == "newest" else held


def row_along(book, path):
    """A row whose letters make these moves, from the first standing on."""
    standing, held = first_standing(book), None
    letters, order = [], []
    for spot, sort, behind, _, _ in path:
        mark = mark_at(spot, held, order)
        letters.append((sort, mark))
        # A move does not tell whether a letter between is held; its effect does.
        held = mark if effect_at(book, standing, spot, sort)[1] else held
        standing = behind
    return numbered(letters, order)


def standings(book):
    """List the standings of all rows as pairs (fewest letters of a row that leads there, standing), ascending."""
    paths = paths_of(book)
    return sorted([(len(paths[standing]), standing) for standing in paths])


def row_to(book, standing):
    """Tell a row with the fewest letters that leads to a standing."""
    check_standing(book, standing)
    paths = paths_of(book)
    if standing not in paths:
        raise BadStanding(standing)
    return row_along(book, paths[standing])
