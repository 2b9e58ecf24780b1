"""Letters of one key, and the rows that they make.

A row that is told is made of letters with MARKS in place of numbers: an order of marks, a list,
tells which stands for the lower number, and a new mark may be put anywhere into it. So there is
room for a number between any two, and the numbers are chosen only when the order is settled.
"""

from heldnotes.kinds import is_int, is_list


def is_letter(thing, sorts):
    """Tell whether any object is a letter (sort, number) of these sorts."""
    return is_list(thing) and len(thing) == 2 and thing[0] in sorts and is_int(thing[1])


def bad_index(thing, sorts):
    """Tell the index of the first thing in any object that is no letter of these sorts.

    It is 0 for an object that is no list, and None for a row.
    """
    if not is_list(thing):
        return 0
    for index, part in enumerate(thing):
        if not is_letter(part, sorts):
            return index
    return None


def put_mark(order, index):
    """Put a new mark into an order of marks; return it."""
    mark = len(order)
    order.insert(index, mark)
    return mark


def numbered(letters, order):
    """The row of letters (sort, mark), with numbers that stand as their marks do."""
    return [(sort, order.index(mark) + 1) for sort, mark in letters]
