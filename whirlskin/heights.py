"""HEIGHTS of CORNERS, and what they count: the ends of edges, the highest corners of fields."""

from whirlskin.corners import ends_of, four_corners, numbers_at, rounds
from whirlskin.errors import Unfit
from whirlskin.forms import are_numbers, as_tuples
from whirlskin.skins import edges_of, given_skin


def can_rise(skin):
    """Whether each FIELD has four unlike CORNERS."""
    return rises(given_skin(skin))


def rises(skin):
    """What can_rise tells, of what is a SKIN."""
    numbers = numbers_at(skin)
    return all([len(set(four_corners(numbers, field))) == 4 for field in range(len(skin))])


def are_heights(skin, thing):
    """Whether thing is HEIGHTS of skin."""
    return stand_apart(given_skin(skin), thing)


def stand_apart(skin, thing):
    """What are_heights tells, of what is a SKIN."""
    return are_numbers(thing, len(rounds(skin))) and len(set(thing)) == len(thing)


def _given_heights(skin, heights):
    """The HEIGHTS of what is a SKIN that were handed in, as a tuple; Unfit() if they are none."""
    own = as_tuples(heights, (None,))
    if not stand_apart(skin, own):
        raise Unfit()
    return own


def height_counts(skin, heights):
    """The tuple with, for each CORNER, 1, less the EDGES it tops, more the FIELDS it tops."""
    own = given_skin(skin)
    tall = _given_heights(own, heights)
    if not rises(own):
        raise Unfit()
    return counts_by(own, tall)


def counts_by(skin, heights):
    """What height_counts tells, of what is a SKIN that can rise and HEIGHTS of it."""
    numbers = numbers_at(skin)
    counts = [1 for _ in heights]
    for edge in edges_of(skin):
        counts[_highest(heights, ends_of(numbers, edge))] -= 1
    for field in range(len(skin)):
        counts[_highest(heights, four_corners(numbers, field))] += 1
    return tuple(counts)


def _highest(heights, corners):
    """The highest one of these CORNERS."""
    return max(corners, key=lambda corner: heights[corner])


def pits(skin, heights):
    """The set of the CORNERS that are lower than all other ones of all of their FIELDS."""
    own = given_skin(skin)
    return _lowest(own, _given_heights(own, heights))


def peaks(skin, heights):
    """The set of the CORNERS that are higher than all other ones of all of their FIELDS."""
    own = given_skin(skin)
    return _lowest(own, tuple([-number for number in _given_heights(own, heights)]))


def _lowest(skin, heights):
    """What pits tells, of what is a SKIN and HEIGHTS of it."""
    numbers = numbers_at(skin)
    low = [True for _ in heights]
    for field in range(len(skin)):
        around = four_corners(numbers, field)
        least = min([heights[corner] for corner in around])
        for corner in around:
            if heights[corner] != least:
                low[corner] = False
    return tuple([corner for corner, is_low in enumerate(low) if is_low])
