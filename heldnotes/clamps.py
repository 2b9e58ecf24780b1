"""Clamps: what letters make of a badge that is shown between a floor and a cap."""

from heldnotes.books import WHOLE
from heldnotes.courses import Course
from heldnotes.errors import BadClamp, BadNumber
from heldnotes.kinds import is_int, is_list
from heldnotes.standings import check_row

# What no clamp at all does.
NOTHING = (None, 0, None)


def is_end(thing):
    """Tell whether any object is an end of a clamp, or None for no such end."""
    return thing is None or is_int(thing)


def is_clamp(thing):
    """Tell whether any object is a clamp (low, step, high)."""
    if not is_list(thing) or len(thing) != 3:
        return False
    low, step, high = thing
    if not is_end(low) or not is_int(step) or not is_end(high):
        return False
    return low is None or high is None or low <= high


def check_clamp(thing):
    """Refuse any object that is no clamp."""
    if not is_clamp(thing):
        raise BadClamp(0)


def check_number(thing):
    """Refuse any object that is no integer."""
    if not is_int(thing):
        raise BadNumber(thing)


def kept_within(x, low, high):
    """What the ends of a clamp make of an integer."""
    if low is not None and x < low:
        return low
    return high if high is not None and x > high else x


def clamped(clamp, x):
    """Tell what a clamp makes of an integer."""
    check_clamp(clamp)
    check_number(x)
    low, step, high = clamp
    return kept_within(x + step, low, high)


def in_form(low, step, high):
    """The form of a clamp of these."""
    # Where all become the same integer, the step makes no difference.
    return (low, 0 if low is not None and low == high else step, high)


def formed(clamp):
    """Tell the form of a clamp."""
    check_clamp(clamp)
    low, step, high = clamp
    return in_form(low, step, high)


def both(one, other):
    """The form of the clamp that does what one does, and then what the other does."""
    low, step, high = other
    # The ends go on as integers do; what one leaves without an end, the other alone ends.
    return in_form(low if one[0] is None else kept_within(one[0] + step, low, high), one[1] + step,
                   high if one[2] is None else kept_within(one[2] + step, low, high))


def all_joined(clamps):
    """The form of the clamp that does what these clamps do, one behind another."""
    told = NOTHING
    for clamp in clamps:
        told = both(told, clamp)
    return told


def joined(clamps):
    """Tell the clamp, in its form, that does what a list of clamps does, one behind another."""
    if not is_list(clamps):
        raise BadClamp(0)
    for index, clamp in enumerate(clamps):
        if not is_clamp(clamp):
            raise BadClamp(index)
    return all_joined(clamps)


def shown(clamp, x):
    """Tell the pair of the least and the greatest integer that a clamp makes into x, or None if there is none."""
    check_clamp(clamp)
    check_number(x)
    low, step, high = clamp
    if kept_within(x, low, high) != x:
        return None
    return (None if x == low else x - step, None if x == high else x - step)


def clamp_of_move(book, move, floor, cap):
    """The clamp that a letter makes of the shown number by a move."""
    _, _, behind, _, step = move
    if step != WHOLE:
        return (floor, step, cap)
    right = kept_within(book.worth(behind[0]) - book.worth(book.first()), floor, cap)
    return (right, 0, right)


def device_clamp(book, row, floor, cap):
    """Tell the form of the clamp that a row of letters of one key makes of a number shown between floor and cap."""
    check_row(book, row)
    check_clamp((floor, 0, cap))
    return all_joined([clamp_of_move(book, move, floor, cap) for _, move in Course(book).moves_along(row)])
