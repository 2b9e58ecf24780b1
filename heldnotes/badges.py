"""The badge of one key: how wrong it can be behind rows of letters, and how fast it can become so."""

from heldnotes.courses import Course
from heldnotes.drifts import Drift, change_by, footing_of, worths_of
from heldnotes.errors import BadBound, BadRate, BadSince
from heldnotes.kinds import is_int, is_int_within, is_list
from heldnotes.means import greatest_mean, heights, one_further, steepest_links
from heldnotes.standings import is_standing


def is_rate(thing):
    """Tell whether any object is a rate."""
    return is_list(thing) and len(thing) == 2 and is_int(thing[0]) and is_int(thing[1]) and thing[1] > 0


def wrong(book):
    """Tell a row with the fewest letters behind which the error is not 0, or None."""
    course, worths = Course(book), worths_of(book)
    # Up to the first move that is neither whole nor right the error is 0.
    path = course.path_to(lambda ahead, move: change_by(worths, ahead, move) not in (None, 0))
    return None if path is None else course.row_along(path)


def greatest_within(drift, since):
    """The greatest error of rows with a stretch of at most since."""
    sums, greatest = drift.starts, 0
    for _ in range(since):
        sums = one_further(drift.links, sums)
        greatest = max([greatest] + list(sums.values()))
    return greatest


def worst(book, since):
    """Tell the pair of the least and the greatest error of rows with a stretch of at most since."""
    if not is_int_within(since, 0, 60):
        raise BadSince(since)
    return (-greatest_within(Drift(book, False), since), greatest_within(Drift(book, True), since))


def first_above(drift, bound):
    """The least stretch of a row whose error is above bound, or None."""
    mean = greatest_mean(drift.links)
    climbs = mean is not None and mean[0] > 0
    sums, stretch = drift.starts, 0
    # Where no ring climbs, the greatest error is that of a row that comes to no footing twice.
    while climbs or stretch < len(drift.links):
        stretch += 1
        sums = one_further(drift.links, sums)
        if max([0] + list(sums.values())) > bound:
            return stretch
    return None


def seldom(book, bound):
    """Tell the greatest stretch up to which no error is below -bound or above bound, or None if none ever is."""
    if not is_int_within(bound, 0, 12):
        raise BadBound(bound)
    found = [first_above(Drift(book, up), bound) for up in (False, True)]
    stretches = [stretch for stretch in found if stretch is not None]
    return min(stretches) - 1 if stretches else None


def rates(book):
    """Tell the pair of the least and the greatest mean of all rings, or None if there is no ring."""
    low, high = [greatest_mean(Drift(book, up).links) for up in (False, True)]
    return None if high is None else ((-low[0], low[1]), high)


def ring(book, high=True):
    """Tell a ring with the greatest mean, or with the least one if high is False, or None."""
    drift = Drift(book, high)
    mean = greatest_mean(drift.links)
    return None if mean is None else drift.ring_along(steepest_links(drift.links, mean))


def is_like_move(book, thing):
    """Tell whether any object has the kinds of a move; where it stands among the moves is not asked."""
    return (isinstance(thing, tuple) and len(thing) == 5 and is_standing(book, thing[2])
            and isinstance(thing[3], bool) and not isinstance(thing[4], bool))


def is_ring(book, thing, rate):
    """Tell whether any object is a ring with this mean."""
    if not is_rate(rate) or not is_list(thing) or not thing:
        return False
    if not all([is_like_move(book, part) for part in thing]):
        return False
    moves, worths = Course(book).all_moves(), worths_of(book)
    ahead, total = thing[-1][2], 0
    for move in thing:
        if ahead not in moves or move not in moves[ahead]:
            return False
        change = change_by(worths, ahead, move)
        if change is None:
            return False
        ahead, total = move[2], total + change
    return total * rate[1] == rate[0] * len(thing)


def slope(book, rate):
    """Tell a slope for a rate as a dict, or None if there is none."""
    if not is_rate(rate):
        raise BadRate(rate)
    numbers = heights(Drift(book, True).links, rate)
    if numbers is None:
        return None
    return {standing: numbers[footing_of(standing)] for standing in Course(book).paths()}


def is_steep(change, rise, rate):
    """Tell whether a move that changes the error rises less than a slope for a rate must (None: a whole)."""
    return change is not None and rate[1] * change > rate[0] + rise


def is_slope(book, thing, rate):
    """Tell whether any object is a slope for a rate."""
    if not is_rate(rate) or not isinstance(thing, dict):
        return False
    if not all([is_standing(book, key) and is_int(thing[key]) for key in thing]):
        return False
    moves, worths = Course(book).all_moves(), worths_of(book)
    if len(thing) != len(moves) or not all([standing in thing for standing in moves]):
        return False
    return not any([is_steep(change_by(worths, ahead, move), thing[move[2]] - thing[ahead], rate)
                    for ahead in moves for move in moves[ahead]])
