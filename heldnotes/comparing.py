"""Books alike: whether two books do the same at each letter of each row.

Two devices with these books take the same letters. Of their held numbers only the order counts;
so a pair of CELLS (state, held number) has the numbers 2 and 4, or 2 for both or the only one,
and the numbers 1 to 5 stand for all that a letter can be beside them.
"""

from heldnotes.books import age_of
from heldnotes.errors import UnlikeSorts
from heldnotes.letters import numbered, put_mark
from heldnotes.paths import shortest_path


def check_sorts(one, other):
    """Refuse two books that have not the same sorts."""
    if sorted(one.sorts()) != sorted(other.sorts()):
        raise UnlikeSorts()


def first_cells(one, other):
    """The cells at which nothing has come."""
    return ((one.first(), None), (other.first(), None))


def with_room(cells):
    """The cells with the held numbers 2 and 4 in place of theirs, in their order."""
    helds = sorted([held for _, held in cells if held is not None])
    return tuple([(state, None if held is None else 2 * helds.index(held) + 2) for state, held in cells])


def letters_at(one, cells):
    """List the letters (sort, number) that can come, one for all that are alike beside the held numbers."""
    highest = max([0] + [held for _, held in cells if held is not None])
    return [(sort, number) for sort in sorted(one.sorts()) for number in range(1, highest + 2)]


def taken(book, cell, letter):
    """The cell behind a letter, and what shows of it: the ring, the step, and what the state adds to a right badge."""
    state, held = cell
    sort, number = letter
    behind, holds, rings, step = book.effect(state, sort, age_of(number, held))
    shown = (rings, step, book.worth(behind) - book.worth(book.first()))
    return (behind, number if holds else held), shown


def both_taken(one, other, cells, letter):
    """The cells behind a letter, with its number and theirs as they are, and whether the devices part at it."""
    (cell, shown), (cell_too, shown_too) = taken(one, cells[0], letter), taken(other, cells[1], letter)
    return (cell, cell_too), shown != shown_too


def cells_behind(one, other, cells):
    """List for each letter that can come the pair of it and the cells behind, with room for the next one."""
    return [(letter, with_room(both_taken(one, other, cells, letter)[0])) for letter in letters_at(one, cells)]


def mark_beside(number, cells, marks, order):
    """The mark of a letter of this number, put into the order of marks if neither device holds it."""
    above = [len(order)]
    for (_, held), mark in zip(cells, marks):
        if held == number:
            return mark
        if held is not None and held > number:
            above.append(order.index(mark))
    return put_mark(order, min(above))


def row_beside(one, other, path):
    """A row whose letters stand beside the held numbers as those of a path do."""
    cells, marks = first_cells(one, other), [None, None]
    letters, order = [], []
    for sort, number in path:
        mark = mark_beside(number, cells, marks, order)
        letters.append((sort, mark))
        behind, _ = both_taken(one, other, cells, (sort, number))
        marks = [mark if held == number else old for (_, held), old in zip(behind, marks)]
        cells = with_room(behind)
    return numbered(letters, order)


def parting(one, other):
    """Tell a row with the fewest letters at whose last letter two books part, or None."""
    check_sorts(one, other)
    path = shortest_path(first_cells(one, other), lambda cells: cells_behind(one, other, cells),
                         lambda cells, letter: both_taken(one, other, cells, letter)[1])
    return None if path is None else row_beside(one, other, path)


def alike(one, other):
    """Tell whether two books do the same at each letter of each row."""
    return parting(one, other) is None
