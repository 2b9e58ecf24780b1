"""Standings: where a device can stand behind the letters of one key, and how it moves on."""

from heldnotes.courses import Course, first_standing
from heldnotes.errors import BadLetter, BadStanding
from heldnotes.letters import bad_index

PLACES = ("lower", "newest", "none")


def is_standing(book, thing):
    """Tell whether any object has the form of a standing."""
    if not isinstance(thing, tuple) or len(thing) != 4:
        return False
    state, place, come, rung = thing
    if state not in book.states() or place not in PLACES:
        return False
    if not isinstance(come, tuple) or not isinstance(rung, bool):
        return False
    if not come:
        return thing == first_standing(book)
    return list(come) == [sort for sort in sorted(book.sorts()) if sort in come]


def check_standing(book, thing):
    """Refuse any object that has not the form of a standing."""
    if not is_standing(book, thing):
        raise BadStanding(thing)


def check_row(book, thing):
    """Refuse any object that is no row of letters of a book."""
    index = bad_index(thing, book.sorts())
    if index is not None:
        raise BadLetter(index)


def moves(book, standing):
    """List the moves (spot, sort, behind, rings, step) at any object that is a standing, ascending."""
    check_standing(book, standing)
    return Course(book).moves_at(standing)


def standing_of(book, row):
    """Tell the standing behind a row."""
    check_row(book, row)
    made = Course(book).moves_along(row)
    return made[-1][1][2] if made else first_standing(book)


def standings(book):
    """List the standings of all rows as pairs (fewest letters of a row that leads there, standing), ascending."""
    paths = Course(book).paths()
    return sorted([(len(paths[standing]), standing) for standing in paths])


def row_to(book, standing):
    """Tell a row with the fewest letters that leads to a standing."""
    check_standing(book, standing)
    course = Course(book)
    paths = course.paths()
    if standing not in paths:
        raise BadStanding(standing)
    return course.row_along(paths[standing])
