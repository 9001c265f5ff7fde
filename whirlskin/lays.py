"""VANES for a WISH, or what bars it."""

from whirlskin.errors import CanNot, Unfit
from whirlskin.forms import is_number
from whirlskin.rings import comes_home, rest_round, ring_home
from whirlskin.skins import all_crossings, given_skin
from whirlskin.trees import rings_of_handles
from whirlskin.vanes import over_ring
from whirlskin.wishes import barring_rests, first_bar, given_wish, sides_by, sum_bars, wide_by


def can_be(skin, wish):
    """Whether VANES have this WISH."""
    own = given_skin(skin)
    return bar_of(own, given_wish(own, wish)) is None


def lay(skin, wish):
    """VANES that have this WISH; CanNot() if there are none."""
    own = given_skin(skin)
    aim = given_wish(own, wish)
    if bar_of(own, aim) is not None:
        raise CanNot()
    return laid_by(own, aim)


def laid_by(skin, wish):
    """What lay tells, of what is a SKIN and a WISH of it that nothing bars."""
    wide = wide_by(skin, wish)
    numbers, _ = _narrowed(skin, wide)
    return tuple([(side + number) % 4 for side, number in zip(sides_by(skin, wide), numbers)])


def bar(skin, wish):
    """What bars wish; CanNot() if nothing does."""
    own = given_skin(skin)
    told = bar_of(own, given_wish(own, wish))
    if told is None:
        raise CanNot()
    return told


def bar_of(skin, wish):
    """What bars a WISH of what is a SKIN: ("sum",), ("rest", number), ("ring", ring), or None."""
    told = first_bar(skin, wish)
    if told is not None:
        return told
    _, ring = _narrowed(skin, wide_by(skin, wish))
    return None if ring is None else ("ring", ring)


def _narrowed(skin, wide):
    """The pair of a list of numbers, one for each FIELD, and None, or of None and a RING that bars.

    By the numbers WIDE STEPS become STEPS: more by the number of the FIELD that is led to, less by that
    of the FIELD that is led from, none is above 1. So no number may be more than that of a neighbour, 1
    more, less the WIDE STEP from there; numbers that sink without an end sink round a RING that bars.
    """
    numbers = [0 for _ in skin]
    come_over = [None for _ in skin]
    last = 0
    for _ in skin:
        last = None
        for field, side in all_crossings(skin):
            other = skin[field][side][0]
            most = numbers[field] + 1 - wide[field][side]
            if numbers[other] > most:
                numbers[other] = most
                come_over[other] = (field, side)
                last = other
        if last is None:
            return numbers, None
    return None, _ring_back(come_over, last)


def _ring_back(come_over, field):
    """The RING that is gone round, back from field, by the CROSSINGS over which FIELDS were come to."""
    # As many CROSSINGS back as there are FIELDS, one surely is on the RING.
    for _ in come_over:
        field = come_over[field][0]
    return ring_home(come_over, field)


def is_bar(skin, wish, thing):
    """Whether thing is any of the BARS of wish."""
    own = given_skin(skin)
    return bars(own, given_wish(own, wish), thing)


def bars(skin, wish, thing):
    """What is_bar tells, of what is a SKIN and a WISH of it."""
    if thing == ("sum",):
        return sum_bars(skin, wish)
    if not isinstance(thing, tuple) or len(thing) != 2:
        return False
    word, told = thing
    if word == "rest":
        return is_number(told) and told in barring_rests(skin, wish)
    if word != "ring" or not comes_home(skin, told) or first_bar(skin, wish) is not None:
        return False
    return abs(over_ring(wide_by(skin, wish), told)) > len(told)


def turnings_between(skin, whirls, number, turnings):
    """The pair of the least and the greatest TURNING of HANDLE RING number in VANES with these whirls and,
    but for number, these turnings; None if there are no such VANES."""
    own = given_skin(skin)
    wanted, turns = given_wish(own, (whirls, turnings))
    if not 0 <= number < len(turns):
        raise Unfit()
    met = [turn for turn in _turns_of(own, number)
           if bar_of(own, (wanted, turns[:number] + (turn,) + turns[number + 1:])) is None]
    return (met[0], met[-1]) if met else None


def _turns_of(skin, number):
    """The list, ascending, of the TURNINGS that HANDLE RING number may have by its length and its REST."""
    ring = rings_of_handles(skin)[number]
    left = rest_round(skin, ring)
    return [turn for turn in range(-len(ring), len(ring) + 1) if (turn + left) % 4 == 0]
