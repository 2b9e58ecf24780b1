"""Wishes: what should hold at every letter of every row, and which rows of a book it hangs on."""

from itertools import combinations

from heldnotes.courses import Course
from heldnotes.errors import BadWish
from heldnotes.kinds import is_list
from heldnotes.letters import bad_index
from heldnotes.standings import is_standing


def are_of(thing, words):
    """Tell whether any object is a list of some of these words."""
    return is_list(thing) and all([part in words for part in thing])


def is_wish(book, thing):
    """Tell whether any object is a wish of a book."""
    if not is_list(thing) or not thing:
        return False
    if thing[0] == "stand":
        return (len(thing) == 4 and are_of(thing[1], book.sorts()) and are_of(thing[2], book.sorts())
                and are_of(thing[3], book.states()))
    if thing[0] == "quiet":
        return len(thing) == 2 and are_of(thing[1], book.sorts())
    return len(thing) == 1 and thing[0] in ("lower", "once")


def check_wish(book, thing):
    """Refuse any object that is no wish of a book."""
    if not is_wish(book, thing):
        raise BadWish(thing)


def check_wishes(book, thing):
    """Refuse any object that is no list of wishes of a book."""
    if not is_list(thing):
        raise BadWish(thing)
    for wish in thing:
        check_wish(book, wish)


def stands_wrong(wish, standing):
    """Tell whether a standing is none that a wish of the kind "stand" asks for."""
    state, _, come, _ = standing
    _, asked, lacking, states = wish
    return (all([sort in come for sort in asked]) and not any([sort in come for sort in lacking])
            and state not in states)


def rings_wrong(wish, ahead, spot):
    """Tell whether a ring at a spot is against a wish of the other kinds."""
    if wish[0] == "lower":
        return spot not in ("top", "newest")
    if spot == "newest":
        come, rung = ahead[2], ahead[3]
    elif spot == "top":
        # Of this number nothing had come.
        come, rung = (), False
    else:
        return False
    return rung if wish[0] == "once" else all([sort in come for sort in wish[1]])


def breaks_at(wish, ahead, move):
    """Tell whether a letter that makes this move from the standing ahead breaks a wish."""
    spot, _, behind, rings, _ = move
    if wish[0] == "stand":
        return stands_wrong(wish, behind)
    return rings and rings_wrong(wish, ahead, spot)


def is_break(book, wish, thing):
    """Tell whether any object is a row that breaks a wish."""
    check_wish(book, wish)
    if bad_index(thing, book.sorts()) is not None or not thing:
        return False
    ahead, move = Course(book).moves_along(thing)[-1]
    return breaks_at(wish, ahead, move)


def breaks_one(wishes, ahead, move):
    """Tell whether a letter that makes this move from the standing ahead breaks one of these wishes."""
    for wish in wishes:
        if breaks_at(wish, ahead, move):
            return True
    return False


def path_against(course, wishes):
    """The moves of a row with the fewest letters that breaks one of these wishes, or None."""
    return course.path_to(lambda ahead, move: breaks_one(wishes, ahead, move))


def breaks(book, wish):
    """Tell a row with the fewest letters that breaks a wish, or None."""
    check_wish(book, wish)
    course = Course(book)
    path = path_against(course, [wish])
    return None if path is None else course.row_along(path)


def closed(book, wish):
    """Tell the ascending list of the standings of all rows, or None if a row breaks the wish."""
    check_wish(book, wish)
    course = Course(book)
    return sorted(course.paths()) if path_against(course, [wish]) is None else None


def is_kept(wish, moves):
    """Tell whether none of the moves at these standings, a dict, breaks a wish."""
    return not any([breaks_at(wish, ahead, move) for ahead in moves for move in moves[ahead]])


def is_closed(book, wish, thing):
    """Tell whether any object is a closed table for a wish."""
    check_wish(book, wish)
    if not is_list(thing) or not all([is_standing(book, part) for part in thing]):
        return False
    course = Course(book)
    moves = {standing: course.moves_at(standing) for standing in thing}
    return (course.first() in moves and is_kept(wish, moves)
            and all([move[2] in moves for ahead in moves for move in moves[ahead]]))


def told_wish(wish):
    """A wish as a tuple with new lists."""
    return tuple([wish[0]] + [list(words) for words in wish[1:]])


def broken(book, wishes):
    """List those of a list of wishes that some row breaks, in their order."""
    check_wishes(book, wishes)
    course = Course(book)
    return [told_wish(wish) for wish in wishes if path_against(course, [wish]) is not None]


def has_part(choice, least):
    """Tell whether one of the least choices has no key but those of this choice."""
    return any([all([key in choice for key in part]) for part in least])


def agrees(choice, idle):
    """Tell whether of the keys of idle, a dict, just those are in a choice for which it has True."""
    return all([(key in choice) == idle[key] for key in idle])


def idle_against(book, wishes, keys, choice):
    """A dict that tells of some of keys whether they are in a choice, if the book without it breaks a wish, or None.

    They are the keys whose effects make a row that breaks the wish; so each choice that agrees leaves this row as
    it is, and breaks the wish, too.
    """
    course = Course(book, choice)
    path = path_against(course, wishes)
    if path is None:
        return None
    return {key: key in choice for key in course.keys_along(path) if key in keys}


def least_idle(book, wishes, rows):
    """List the least choices of keys in rows without which a book keeps all wishes."""
    check_wishes(book, wishes)
    # The book itself refuses what is no list of keys that can be made idle.
    book.without(rows)
    keys = sorted([tuple(key) for key in rows])
    least, against = [], []
    for many in range(len(keys) + 1):
        for choice in combinations(keys, many):
            # More idle rows may break wishes as well as keep them, so that a choice tells nothing of another one
            # but by a row that both leave as it is.
            if has_part(choice, least) or any([agrees(choice, idle) for idle in against]):
                continue
            idle = idle_against(book, wishes, keys, choice)
            if idle is None:
                least.append(list(choice))
            else:
                against.append(idle)
    return least
