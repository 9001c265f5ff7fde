"""GAPS of VANES of one WISH, the tight rings that no QUARTER can turn, and what stands still by them."""

from whirlskin.errors import CanNot, Unfit
from whirlskin.rings import comes_home, ring_home
from whirlskin.rooms import rooms_from
from whirlskin.skins import all_crossings, check_field, first_ways, given_skin
from whirlskin.vanes import given_vanes, rows_of_steps, stand_on
from whirlskin.whirls import wish_by


def given_lot(skin, rows):
    """The list of the VANES of what is a SKIN that were handed in, as tuples; Unfit() if some are none, or not
    all are of one WISH."""
    told = [given_vanes(skin, row) for row in rows]
    if not of_one_wish(skin, told):
        raise Unfit()
    return told


def of_one_wish(skin, rows):
    """Whether all these VANES of what is a SKIN are of one WISH."""
    told = [wish_by(skin, rows_of_steps(skin, row)) for row in rows]
    return all([own == told[0] for own in told])


def gap(skin, vanes, far):
    """The GAP from vanes to far."""
    own = given_skin(skin)
    near, beyond = given_lot(own, (vanes, far))
    return gap_of(own, near, beyond)


def gap_of(skin, near, far):
    """What gap tells, of what is a SKIN and VANES of it of one WISH."""
    before, behind = rows_of_steps(skin, near), rows_of_steps(skin, far)
    numbers = [0 for _ in skin]
    numbers[0] = (far[0] - near[0]) % 4
    for field, side in first_ways(skin):
        numbers[skin[field][side][0]] = numbers[field] + behind[field][side] - before[field][side]
    return tuple(numbers)


def by_gap(skin, vanes, numbers):
    """The VANES that point so many SIDES on; CanNot() unless these are VANES with this GAP, or more by 4 k."""
    own = given_skin(skin)
    near = given_vanes(own, vanes)
    told = tuple([(side + number) % 4 for side, number in zip(near, numbers)])
    if not stand_on(own, told):
        raise CanNot()
    before, behind = rows_of_steps(own, near), rows_of_steps(own, told)
    for field, side in all_crossings(own):
        more = numbers[own[field][side][0]] - numbers[field]
        if behind[field][side] != before[field][side] + more:
            raise CanNot()
    return told


def tight_fields(skin, vanes):
    """The set of the TIGHT FIELDS."""
    own = given_skin(skin)
    return tight_by(own, rows_of_steps(own, given_vanes(own, vanes)))


def tight_by(skin, steps):
    """The set of the FIELDS that are TIGHT by these STEPS, of what is a SKIN."""
    return tuple([field for field in range(len(skin)) if field in _come_over(skin, steps, field)])


def _is_tight_way(skin, steps, crossing):
    """Whether crossing leads to another FIELD, by a STEP of 1."""
    field, side = crossing
    return steps[field][side] == 1 and skin[field][side][0] != field


def _come_over(skin, steps, start):
    """The dict with, for each FIELD that one comes to from start over STEPS of 1 to other FIELDS, the CROSSING
    over which it is first come to; start is among them if one comes home."""
    found = {}
    fields = [start]
    at = 0
    while at < len(fields):
        for side in range(4):
            other = skin[fields[at]][side][0]
            if other not in found and _is_tight_way(skin, steps, (fields[at], side)):
                found[other] = (fields[at], side)
                fields.append(other)
        at += 1
    return found


def tight_ring(skin, vanes, field):
    """A tight ring with a CROSSING of field; CanNot() if there is none."""
    own = given_skin(skin)
    steps = rows_of_steps(own, given_vanes(own, vanes))
    check_field(own, field)
    found = _come_over(own, steps, field)
    if field not in found:
        raise CanNot()
    return ring_home(found, field)


def is_tight_ring(skin, vanes, thing):
    """Whether thing is a tight ring."""
    own = given_skin(skin)
    steps = rows_of_steps(own, given_vanes(own, vanes))
    return comes_home(own, thing) and all([_is_tight_way(own, steps, crossing) for crossing in thing])


def still_fields(skin, vanes):
    """The set of the FIELDS that no PLAN of vanes turns."""
    own = given_skin(skin)
    told = depths_by(own, rows_of_steps(own, given_vanes(own, vanes)))
    if told is None:
        return ()
    return tuple([field for field, pair in enumerate(told) if pair == (0, 0)])


def depths_by(skin, steps):
    """None if no FIELD is TIGHT by these STEPS; else the tuple with, for each FIELD of what is a SKIN, the pair
    of the least and the greatest number by which PLANS of VANES with these STEPS turn it."""
    tight = tight_by(skin, steps)
    if not tight:
        return None
    # Gone back, a way has the contrary STEPS: so these rooms are those from each FIELD to a TIGHT one.
    contrary = [[-own for own in row] for row in steps]
    less, more = rooms_from(skin, contrary, tight), rooms_from(skin, steps, tight)
    return tuple([(-least, most) for least, most in zip(less, more)])


def room(skin, vanes, field, other):
    """How much more the GAP from vanes to VANES of their WISH can be at other than at field."""
    own = given_skin(skin)
    steps = rows_of_steps(own, given_vanes(own, vanes))
    check_field(own, field)
    check_field(own, other)
    return rooms_from(own, steps, (field,))[other]
