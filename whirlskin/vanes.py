"""VANES: a SIDE for each FIELD, and the STEPS from one to the next."""

from whirlskin.errors import Unfit
from whirlskin.forms import are_sides, as_tuples
from whirlskin.rings import given_ring, laid_over
from whirlskin.skins import all_crossings, check_field, given_skin, sewn


def are_vanes(skin, thing):
    """Whether thing is VANES of skin."""
    return stand_on(given_skin(skin), thing)


def stand_on(skin, thing):
    """What are_vanes tells, of what is a SKIN."""
    if not are_sides(thing, len(skin)):
        return False
    return all([step_over(skin, thing, crossing) != 2 for crossing in all_crossings(skin)])


def given_vanes(skin, vanes):
    """The VANES of what is a SKIN that were handed in, as a tuple; Unfit() if they are none."""
    own = as_tuples(vanes, (None,))
    if not stand_on(skin, own):
        raise Unfit()
    return own


def step_over(skin, sides, crossing):
    """The STEP over crossing, -1, 0, 1 or 2, of a SIDE for each FIELD of what is a SKIN."""
    flat = laid_over(skin, crossing, sides[crossing[0]])
    turn = (sides[sewn(skin, crossing)[0]] - flat) % 4
    return -1 if turn == 3 else turn


def laid_flat(skin, crossing, side):
    """The SIDE that side becomes, laid flat over crossing."""
    own = given_skin(skin)
    check_field(own, crossing[0])
    return laid_over(own, crossing, side)


def step(skin, vanes, crossing):
    """The STEP over crossing: -1, 0 or 1."""
    own = given_skin(skin)
    sides = given_vanes(own, vanes)
    check_field(own, crossing[0])
    return step_over(own, sides, crossing)


def steps(skin, vanes):
    """The tuple with, for each FIELD, the tuple of the STEPS over its SIDES 0 to 3."""
    own = given_skin(skin)
    return rows_of_steps(own, given_vanes(own, vanes))


def rows_of_steps(skin, sides):
    """What steps tells, of what is a SKIN and VANES of it."""
    return tuple([tuple([step_over(skin, sides, (field, side)) for side in range(4)]) for field in range(len(skin))])


def over_ring(rows, ring):
    """What rows of STEPS, or of WIDE STEPS, come to over ring."""
    return sum([rows[field][side] for field, side in ring])


def turning(skin, vanes, ring):
    """The TURNING of ring: its STEPS added up."""
    own = given_skin(skin)
    sides = given_vanes(own, vanes)
    return over_ring(rows_of_steps(own, sides), given_ring(own, ring))


def all_turned(skin, vanes, number):
    """The VANES all of which are turned by number, by four."""
    return tuple([(side + number) % 4 for side in given_vanes(given_skin(skin), vanes)])


def with_vane(skin, vanes, field, side):
    """The VANES with side for this FIELD; Unfit() if these are no VANES."""
    own = given_skin(skin)
    sides = given_vanes(own, vanes)
    check_field(own, field)
    return given_vanes(own, sides[:field] + (side,) + sides[field + 1:])
