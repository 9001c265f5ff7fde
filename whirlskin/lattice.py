"""The lesser and the greater of two VANES of one WISH, and how far PLANS can turn each FIELD."""

from whirlskin.gaps import depths_by, gap_of, given_lot
from whirlskin.skins import given_skin
from whirlskin.vanes import given_vanes, rows_of_steps


def lower(skin, vanes, far, other):
    """The VANES that have come on from vanes, FIELD by FIELD, by the lesser of how far and other have."""
    near, pairs = _two_gaps(skin, vanes, far, other)
    return tuple([(side + min(pair)) % 4 for side, pair in zip(near, pairs)])


def higher(skin, vanes, far, other):
    """The VANES that have come on from vanes, FIELD by FIELD, by the greater of how far and other have."""
    near, pairs = _two_gaps(skin, vanes, far, other)
    return tuple([(side + max(pair)) % 4 for side, pair in zip(near, pairs)])


def _two_gaps(skin, vanes, far, other):
    """The pair of vanes and of the list of pairs, one for each FIELD, of the numbers of the GAPS to far and to
    other; Unfit() as lower."""
    own = given_skin(skin)
    near, first, second = given_lot(own, (vanes, far, other))
    return near, list(zip(gap_of(own, near, first), gap_of(own, near, second)))


def depth(skin, vanes):
    """None if no FIELD is TIGHT; else the tuple of pairs of the least and the greatest number of QUARTERS that
    PLANS turn each FIELD."""
    own = given_skin(skin)
    return depths_by(own, rows_of_steps(own, given_vanes(own, vanes)))
