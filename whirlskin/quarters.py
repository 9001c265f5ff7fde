"""QUARTERS: one vane turned on or back, and PLANS of them."""

from whirlskin.errors import Broken, CanNot, Unfit
from whirlskin.forms import as_tuples, is_below, is_number
from whirlskin.skins import check_field, given_skin
from whirlskin.vanes import given_vanes, step_over


def is_quarter(skin, vanes, thing):
    """Whether thing is a QUARTER of these VANES."""
    own = given_skin(skin)
    return turns(own, given_vanes(own, vanes), thing)


def turns(skin, sides, thing):
    """What is_quarter tells, of what is a SKIN and VANES of it."""
    if not isinstance(thing, tuple) or len(thing) != 2:
        return False
    field, way = thing
    if not is_below(field, len(skin)) or not is_number(way) or way not in (1, -1):
        return False
    return not barring_fields(skin, sides, field, way)


def barring_fields(skin, sides, field, way):
    """What barring tells, of what is a SKIN, VANES of it, a FIELD and a way."""
    turned_on = turned_by(sides, field, way)
    barred = {}
    for side in range(4):
        if step_over(skin, turned_on, (field, side)) == 2:
            barred[skin[field][side][0]] = True
    return tuple(sorted(barred))


def turned_by(sides, field, way):
    """The SIDES with that of field turned by way, by four."""
    return sides[:field] + ((sides[field] + way) % 4,) + sides[field + 1:]


def quarters(skin, vanes):
    """The set of all QUARTERS of these VANES."""
    own = given_skin(skin)
    return quarters_of(own, given_vanes(own, vanes))


def quarters_of(skin, sides):
    """What quarters tells, of what is a SKIN and VANES of it."""
    pairs = [(field, way) for field in range(len(skin)) for way in (-1, 1)]
    return tuple([pair for pair in pairs if turns(skin, sides, pair)])


def _given_turn(skin, vanes, field, way):
    """The pair of the SKIN and the VANES, in tuples; errors as barring."""
    own = given_skin(skin)
    sides = given_vanes(own, vanes)
    check_field(own, field)
    if way not in (1, -1):
        raise Unfit()
    return own, sides


def barring(skin, vanes, field, way):
    """The set of the other FIELDS that keep field from being turned by way."""
    own, sides = _given_turn(skin, vanes, field, way)
    return barring_fields(own, sides, field, way)


def turned(skin, vanes, field, way):
    """The VANES behind this QUARTER; CanNot() if it is none."""
    own, sides = _given_turn(skin, vanes, field, way)
    if not turns(own, sides, (field, way)):
        raise CanNot()
    return turned_by(sides, field, way)


def behind(skin, vanes, plan):
    """The VANES behind this PLAN; Broken(place) with the place of the first pair that is no QUARTER in its turn."""
    own = given_skin(skin)
    return behind_plan(own, given_vanes(own, vanes), as_tuples(plan, (None, 2)))


def behind_plan(skin, sides, plan):
    """What behind tells, of what is a SKIN, VANES of it and a tuple of pairs."""
    told, place = gone(skin, sides, plan)
    if place is not None:
        raise Broken(place)
    return told


def gone(skin, sides, plan):
    """The pair of the VANES behind the QUARTERS of plan, and None; if one of its pairs is none in its turn,
    of the VANES ahead of the first such one, and its place."""
    for place, pair in enumerate(plan):
        if not turns(skin, sides, pair):
            return sides, place
        sides = turned_by(sides, pair[0], pair[1])
    return sides, None
