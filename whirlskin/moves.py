"""What comes of SKINS: mirrored, with their VANES and RINGS, and sewn together."""

from whirlskin.corners import four_corners, numbers_at
from whirlskin.errors import Unfit
from whirlskin.rings import given_ring
from whirlskin.skins import all_crossings, check_field, given_names, given_skin, sewn
from whirlskin.vanes import given_vanes


def mirrored(skin):
    """The SKIN mirrored: each SIDE a is SIDE 4 - a by four."""
    own = given_skin(skin)
    rows = [[_mirrored_crossing(row[-side % 4]) for side in range(4)] for row in own]
    return tuple([tuple(row) for row in rows])


def _mirrored_crossing(crossing):
    """The CROSSING with its SIDE mirrored."""
    return crossing[0], -crossing[1] % 4


def vanes_mirrored(skin, vanes):
    """The VANES of the SKIN mirrored which come of vanes."""
    return tuple([-side % 4 for side in given_vanes(given_skin(skin), vanes)])


def ring_mirrored(skin, ring):
    """The RING of the SKIN mirrored which comes of ring."""
    return tuple([_mirrored_crossing(crossing) for crossing in given_ring(given_skin(skin), ring)])


def vanes_renamed(skin, vanes, order, turns):
    """The VANES of the SKIN renamed by order and turns which come of vanes."""
    own = given_skin(skin)
    sides = given_vanes(own, vanes)
    fields, quarters = given_names(own, order, turns)
    return tuple([(sides[field] - turn) % 4 for field, turn in zip(fields, quarters)])


def can_sew(skin, field, other, far):
    """Whether both SKINS can be sewn together at FIELDS field of skin and far of other."""
    own, second = _given_two(skin, field, other, far)
    return _both_fit(own, field, second, far)


def _given_two(skin, field, other, far):
    """The pair of both SKINS, in tuples; errors as can_sew."""
    own, second = given_skin(skin), given_skin(other)
    check_field(own, field)
    check_field(second, far)
    return own, second


def _both_fit(skin, field, other, far):
    """What can_sew tells, of what are SKINS and FIELDS of them."""
    if _leads_to_itself(skin, field) or _leads_to_itself(other, far):
        return False
    return _has_four_corners(skin, field) or _has_four_corners(other, far)


def _leads_to_itself(skin, field):
    """Whether some CROSSING of field leads to field."""
    return field in [crossing[0] for crossing in skin[field]]


def _has_four_corners(skin, field):
    """Whether the four CORNERS of field are unlike."""
    return len(set(four_corners(numbers_at(skin), field))) == 4


def sewn_together(skin, field, other, far, turn):
    """The SKIN that comes when both FIELDS are taken out and what was sewn to them is sewn together."""
    own, second = _given_two(skin, field, other, far)
    if not _both_fit(own, field, second, far):
        raise Unfit()
    seams = {}
    _keep_seams(seams, own, field, 0)
    _keep_seams(seams, second, far, len(own) - 1)
    for side in range(4):
        left = _moved(own[field][side], field, 0)
        right = _moved(second[far][(turn - side) % 4], far, len(own) - 1)
        seams[left] = right
        seams[right] = left
    many = len(own) + len(second) - 2
    return tuple([tuple([seams[place, side] for side in range(4)]) for place in range(many)])


def _keep_seams(seams, skin, out, start):
    """Put into seams, named anew from start on, what is sewn to what where FIELD out has no part in it."""
    for crossing in all_crossings(skin):
        contrary = sewn(skin, crossing)
        if crossing[0] != out and contrary[0] != out:
            seams[_moved(crossing, out, start)] = _moved(contrary, out, start)


def _moved(crossing, out, start):
    """The CROSSING when FIELD out is taken out and FIELDS are numbered from start on."""
    field, side = crossing
    return (field + start if field < out else field + start - 1), side
