"""Cuts: sets of CORNERS that want more than their rim can bring, on SKINS without HANDLES."""

from whirlskin.corners import check_corner, ends_of, numbers_at, rounds, x_from
from whirlskin.errors import CanNot, TooMany, Unfit
from whirlskin.forms import are_numbers, as_tuples, is_below
from whirlskin.lays import bar_of
from whirlskin.lots import rows_of_wish
from whirlskin.skins import edges_of, given_skin, sewn
from whirlskin.wishes import wants_by


def _given_sphere(skin):
    """The SKIN that was handed in, in tuples; Unfit() if it is none, or has HANDLES."""
    own = given_skin(skin)
    if x_from(own) != 2:
        raise Unfit()
    return own


def _given_whirls(skin, whirls):
    """The whirls that were handed in, as a tuple; Unfit() if they are not a number for each CORNER."""
    own = as_tuples(whirls, (None,))
    if not are_numbers(own, len(rounds(skin))):
        raise Unfit()
    return own


def wants(skin, whirls):
    """The tuple of what the CORNERS want."""
    own = _given_sphere(skin)
    return wants_by(own, _given_whirls(own, whirls))


def rim_of(skin, lot):
    """The list, ascending, of the EDGES of the rim of lot."""
    own = _given_sphere(skin)
    rows = rounds(own)
    for corner in lot:
        check_corner(rows, corner)
    return _rim(own, lot)


def _rim(skin, lot):
    """What rim_of tells, of what is a SKIN and CORNERS of it."""
    numbers = numbers_at(skin)
    inside = {corner: True for corner in lot}
    told = []
    for edge in edges_of(skin):
        first, second = ends_of(numbers, edge)
        if (first in inside) != (second in inside):
            told.append(edge)
    return told


def is_cut(skin, whirls, thing):
    """Whether thing is a cut."""
    own = _given_sphere(skin)
    wanted = wants_by(own, _given_whirls(own, whirls))
    if not _is_set_below(thing, len(wanted)) or len(thing) == 0:
        return False
    return abs(sum([wanted[corner] for corner in thing])) > len(_rim(own, thing))


def _is_set_below(thing, many):
    """Whether thing is a set of numbers from 0 to many, without many itself."""
    if not isinstance(thing, tuple) or not all([is_below(own, many) for own in thing]):
        return False
    return list(thing) == sorted(set(thing))


def cut(skin, whirls):
    """A cut; CanNot() if there is none."""
    own = _given_sphere(skin)
    wanted = _given_whirls(own, whirls)
    told = bar_of(own, (wanted, ()))
    if told is None:
        raise CanNot()
    if told == ("sum",):
        return tuple(range(len(wanted)))
    return _corners_within(own, told[1])


def _corners_within(skin, ring):
    """The set of the CORNERS on the one side of ring, to which each CROSSING of it ends first.

    A RING that bars leads from unlike FIELDS, so without HANDLES it parts the SKIN in two, and
    the EDGES that it crosses are the rim.
    """
    numbers = numbers_at(skin)
    crossed = {}
    for crossing in ring:
        crossed[crossing] = True
        crossed[sewn(skin, crossing)] = True
    ways = []
    for edge in edges_of(skin):
        if edge not in crossed:
            first, second = ends_of(numbers, edge)
            ways = ways + [(first, second), (second, first)]
    within = [numbers[ring[0]]]
    at = 0
    while at < len(within):
        for near, far in ways:
            if near == within[at] and far not in within:
                within.append(far)
        at += 1
    return tuple(sorted(within))


def step_rows(skin, whirls):
    """How many rows of STEPS there are with these whirls; TooMany() if they are more than 400."""
    own = _given_sphere(skin)
    told = rows_of_wish(own, (_given_whirls(own, whirls), ()), 400)
    if told > 400:
        raise TooMany()
    return told
