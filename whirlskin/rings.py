"""RINGS of CROSSINGS, and how far a SIDE is turned that is led round them."""

from whirlskin.corners import check_corner, rounds
from whirlskin.errors import Unfit
from whirlskin.forms import as_tuples, is_crossing
from whirlskin.skins import given_skin, sewn


def is_ring(skin, thing):
    """Whether thing is a RING of skin, of however many CROSSINGS."""
    return comes_home(given_skin(skin), thing)


def comes_home(skin, thing):
    """What is_ring tells, of what is a SKIN."""
    if not isinstance(thing, tuple) or len(thing) == 0:
        return False
    if not all([is_crossing(own, len(skin)) for own in thing]):
        return False
    ahead = thing[-1:] + thing[:-1]
    return all([sewn(skin, before)[0] == own[0] for before, own in zip(ahead, thing)])


def given_ring(skin, ring):
    """The RING of what is a SKIN that was handed in, in tuples; Unfit() if it is none."""
    own = as_tuples(ring, (None, 2))
    if not comes_home(skin, own):
        raise Unfit()
    return own


def laid_over(skin, crossing, side):
    """The SIDE that side becomes, laid flat over crossing, of what is a SKIN."""
    return (side - crossing[1] + sewn(skin, crossing)[1] + 2) % 4


def _led_round(skin, ring, side):
    """What led tells, of what is a SKIN and a RING of it."""
    for crossing in ring:
        side = laid_over(skin, crossing, side)
    return side


def led(skin, ring, side):
    """The SIDE that comes home when side is led round ring."""
    own = given_skin(skin)
    return _led_round(own, given_ring(own, ring), side)


def rest(skin, ring):
    """The REST of ring, from 0 to 3."""
    own = given_skin(skin)
    return rest_round(own, given_ring(own, ring))


def rest_round(skin, ring):
    """What rest tells, of what is a SKIN and a RING of it."""
    # SIDE 0 that comes home turned by the REST comes home as the REST itself.
    return _led_round(skin, ring, 0)


def gone_back(skin, ring):
    """The RING of the contraries of the CROSSINGS of ring, the last one first."""
    own = given_skin(skin)
    return contraries(own, given_ring(own, ring))


def contraries(skin, row):
    """The tuple of the contraries of a row of CROSSINGS of what is a SKIN, the last one first."""
    return tuple([sewn(skin, crossing) for crossing in row[::-1]])


def ring_home(come_over, field):
    """The RING that comes home to field, gone back from there by the CROSSINGS over which FIELDS were come to."""
    ring = [come_over[field]]
    while ring[-1][0] != field:
        ring.append(come_over[ring[-1][0]])
    return tuple(ring[::-1])


def corner_ring(skin, corner):
    """The RING round this CORNER."""
    own = given_skin(skin)
    rows = rounds(own)
    check_corner(rows, corner)
    return ring_round(rows[corner])


def ring_round(row):
    """The RING round the CORNER that has this ROUND."""
    return tuple([(field, (side - 1) % 4) for field, side in row])


def put_behind(skin, ring, other):
    """The RING that goes round ring, then round other."""
    own = given_skin(skin)
    first, second = given_ring(own, ring), given_ring(own, other)
    if first[0][0] != second[0][0]:
        raise Unfit()
    return first + second


def asked_most(ring):
    """How many CROSSINGS ring has: no VANES have a greater TURNING round it."""
    return len(ring)
