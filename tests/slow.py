"""Rows of letters of one key, gone through letter by letter, straight from the words of the document.

They are those of [9], [14], [16], [20], [27], [29], [31], [33], [35].
"""

import functools
import itertools

from heldnotes.standings import moves, standings


def walk(book, row):
    """For each letter: the state and the held number behind it, whether it rings, and the step."""
    effects = book.rows()
    state, held = book.first(), None
    told = []
    for sort, number in row:
        if held is None or number > held:
            age = "newer"
        elif number == held:
            age = "same"
        else:
            age = "elder"
        state, holds, rings, step = effects.get((state, sort, age), (state, False, False, 0))
        if holds:
            held = number
        told.append((state, held, rings, step))
    return told


def slow_standing(book, row):
    """The standing behind a row."""
    if not row:
        return (book.first(), "none", (), False)
    told = walk(book, row)
    newest = max(number for _, number in row)
    state, held, _, _ = told[-1]
    if held is None:
        place = "none"
    else:
        place = "newest" if held == newest else "lower"
    come = tuple(sorted({sort for sort, number in row if number == newest}))
    rung = any(number == newest and rings for (_, number), (_, _, rings, _) in zip(row, told))
    return (state, place, come, rung)


def slow_spot(book, row, number):
    """The spot of a letter of this number behind a row."""
    numbers = [old for _, old in row]
    if not row or number > max(numbers):
        return "top"
    if number == max(numbers):
        return "newest"
    held = walk(book, row)[-1][1]
    if number == held:
        return "held"
    return "between" if held is None or number > held else "below"


def slow_move(book, row):
    """The move that the last letter of a row makes."""
    sort, number = row[-1]
    _, _, rings, step = walk(book, row)[-1]
    return (slow_spot(book, row[:-1], number), sort, slow_standing(book, row), rings, step)


def slow_moves(book, row):
    """All rows with one letter more, for all places that a number can have; there must be room between."""
    numbers = sorted({number for _, number in row})
    tried = [number + more for number in numbers for more in (-5, 0, 5)] or [0]
    return [list(row) + [(sort, number)] for number in tried for sort in book.sorts()]


def roomy(row):
    """The same row with room between the numbers."""
    return [(sort, 10 * number) for sort, number in row]


def slow_is_break(book, wish, row):
    """Whether a row breaks a wish."""
    if not row:
        return False
    told = walk(book, row)
    state, _, rings, _ = told[-1]
    _, number = row[-1]
    newest = max(other for _, other in row)
    if wish[0] == "stand":
        come = {sort for sort, other in row if other == newest}
        asked = all(sort in come for sort in wish[1]) and all(sort not in come for sort in wish[2])
        return asked and state not in wish[3]
    if not rings:
        return False
    if wish[0] == "lower":
        return number < newest
    if number < newest:
        return False
    ahead = [at for at, (_, other) in enumerate(row[:-1]) if other == number]
    if wish[0] == "once":
        return any(told[at][2] for at in ahead)
    return set(wish[1]) <= {row[at][0] for at in ahead}


def slow_part(one, other, row):
    """Whether two books part at the last letter of a row."""
    shown = []
    for book in (one, other):
        state, _, rings, step = walk(book, row)[-1]
        shown.append((rings, step, book.worth(state) - book.worth(book.first())))
    return shown[0] != shown[1]


def slow_errors(book, row):
    """The pairs (error, stretch) ahead of a row and behind each of its letters."""
    badge, stretch = 0, 0
    told = [(0, 0)]
    for state, _, _, step in walk(book, row):
        right = book.worth(state) - book.worth(book.first())
        badge, stretch = (right, 0) if step == "whole" else (badge + step, stretch + 1)
        told.append((badge - right, stretch))
    return told


def change_of(book, ahead, move):
    """What a move changes the error by, or None for a whole."""
    return None if move[4] == "whole" else move[4] + book.worth(ahead[0]) - book.worth(move[2][0])


def all_changes(book):
    """All triples (standing, move, change) of the standings of rows."""
    return [(ahead, move, change_of(book, ahead, move)) for _, ahead in standings(book) for move in moves(book, ahead)]


def slow_levels(book, most):
    """For each stretch up to most the least and the greatest error of the rows with no longer one."""
    made = all_changes(book)
    now = {move[2]: (0, 0) for _, move, change in made if change is None}
    now[(book.first(), "none", (), False)] = (0, 0)
    told = [(0, 0)]
    for _ in range(most):
        further = {}
        for ahead, move, change in made:
            if ahead in now and change is not None:
                least, greatest = now[ahead][0] + change, now[ahead][1] + change
                before = further.get(move[2], (least, greatest))
                further[move[2]] = (min(before[0], least), max(before[1], greatest))
        now = further
        ends = list(now.values()) + told[-1:]
        told.append((min(least for least, _ in ends), max(greatest for _, greatest in ends)))
    return told


def slow_is_ring(book, thing, above, below):
    """Whether a list of things is a ring with this mean."""
    made = {repr((ahead, move)): change for ahead, move, change in all_changes(book)}
    if not thing:
        return False
    total = 0
    for ahead, move in zip([thing[-1]] + list(thing), thing):
        if not isinstance(ahead, tuple) or len(ahead) != 5:
            return False
        # What is shown of 1 is not what is shown of True.
        change = made.get(repr((ahead[2], move)))
        if change is None:
            return False
        total += change
    return total * below == above * len(thing)


def slow_is_slope(book, thing, above, below):
    """Whether a dict is a slope for a rate."""
    if sorted(map(repr, thing)) != sorted(repr(standing) for _, standing in standings(book)):
        return False
    if any(type(number) is not int for number in thing.values()):
        return False
    return all(change is None or below * change <= above + thing[move[2]] - thing[ahead]
               for ahead, move, change in all_changes(book))


@functools.cache
def orders(many):
    """All ways in which so many numbers can stand to one another."""
    return [told for told in itertools.product(range(many), repeat=many)
            if set(told) == set(range(len(set(told))))]


def rows_of(sorts, many):
    """All rows of so many letters, one for all that have their numbers in the same order."""
    for words in itertools.product(sorts, repeat=many):
        for numbers in orders(many):
            yield list(zip(words, numbers))


def shorter_rows(sorts, many):
    """All rows with fewer letters."""
    for fewer in range(many):
        yield from rows_of(sorts, fewer)
