"""WHIRLS of CORNERS, and the WISH that VANES have."""

from whirlskin.corners import check_corner, rounds
from whirlskin.rings import ring_round
from whirlskin.skins import given_skin
from whirlskin.trees import rings_of_handles
from whirlskin.vanes import given_vanes, over_ring, rows_of_steps


def whirls(skin, vanes):
    """The tuple of the WHIRLS of all CORNERS."""
    own = given_skin(skin)
    return _whirls_by(own, rows_of_steps(own, given_vanes(own, vanes)))


def _whirls_by(skin, rows):
    """The WHIRLS of all CORNERS by rows of STEPS, of what is a SKIN."""
    return tuple([_whirl_by(rows, row) for row in rounds(skin)])


def _whirl_by(rows, row):
    """The WHIRL, by rows of STEPS, of the CORNER that has the ROUND row."""
    return (over_ring(rows, ring_round(row)) + 4 - len(row)) // 4


def whirl_at(skin, vanes, corner):
    """The WHIRL of this CORNER."""
    told = whirls(skin, vanes)
    check_corner(told, corner)
    return told[corner]


def least_whirl(skin, corner):
    """The least whole number that is not below 1 - k / 2, k being that of this CORNER."""
    rows = rounds(given_skin(skin))
    check_corner(rows, corner)
    return 1 - len(rows[corner]) // 2


def whirled(skin, vanes, number):
    """The set of the numbers of the CORNERS that have this WHIRL."""
    return tuple([corner for corner, whirl in enumerate(whirls(skin, vanes)) if whirl == number])


def wish_of(skin, vanes):
    """The WISH of vanes: the pair of the tuples of its WHIRLS and of its TURNINGS."""
    own = given_skin(skin)
    return wish_by(own, rows_of_steps(own, given_vanes(own, vanes)))


def wish_by(skin, rows):
    """The WISH of the VANES that have these rows of STEPS, of what is a SKIN."""
    return _whirls_by(skin, rows), tuple([over_ring(rows, ring) for ring in rings_of_handles(skin)])
