"""PLANS that lead from VANES to others of the same WISH, by the fewest QUARTERS, and what keeps all from it."""

from whirlskin.errors import CanNot
from whirlskin.forms import are_numbers
from whirlskin.gaps import gap_of, given_lot, tight_by
from whirlskin.quarters import barring_fields, gone, turned_by
from whirlskin.skins import given_skin
from whirlskin.vanes import rows_of_steps


def _given(skin, vanes, far):
    """The triple of the SKIN and of both VANES, in tuples; Unfit() if they are none, or not of one WISH."""
    own = given_skin(skin)
    near, beyond = given_lot(own, (vanes, far))
    return own, near, beyond


def can_lead(skin, vanes, far):
    """Whether some PLAN leads from vanes to far."""
    own, near, beyond = _given(skin, vanes, far)
    return suiting(own, near, beyond) is not None


def suiting(skin, near, far):
    """What nearest tells, of what is a SKIN and VANES of it of one WISH; None if no k suits."""
    numbers = gap_of(skin, near, far)
    tight = tight_by(skin, rows_of_steps(skin, near))
    if not tight:
        return _least_of_all(numbers)
    told = [numbers[field] for field in tight]
    if min(told) != max(told) or told[0] % 4 != 0:
        return None
    return told[0] // 4


def _least_of_all(numbers):
    """Of all k, for which the numbers less 4 k, without signs, come to fewest, the least."""
    # With a k beyond these each of the numbers less 4 k only comes to more.
    sums = [(sum([abs(own - 4 * k) for own in numbers]), k) for k in range(min(numbers) // 4, max(numbers) // 4 + 2)]
    return min(sums)[1]


def shift(skin, vanes, far):
    """The k that suits; None if there is no TIGHT FIELD; CanNot() if none suits."""
    own, near, beyond = _given(skin, vanes, far)
    if not tight_by(own, rows_of_steps(own, near)):
        return None
    return _surely(suiting(own, near, beyond))


def _surely(told):
    """What is told; CanNot() if it is None."""
    if told is None:
        raise CanNot()
    return told


def fewest(skin, vanes, far):
    """How many QUARTERS a PLAN that leads to far has at the least; CanNot() if none does."""
    own, near, beyond = _given(skin, vanes, far)
    return _surely(fewest_by(own, near, beyond))


def fewest_by(skin, near, far):
    """What fewest tells, of what is a SKIN and VANES of it of one WISH; None if no PLAN leads."""
    k = suiting(skin, near, far)
    return None if k is None else sum([abs(number - 4 * k) for number in gap_of(skin, near, far)])


def nearest(skin, vanes, far):
    """Of the k that suit, by which a PLAN needs fewest QUARTERS, the least; CanNot() if none suits."""
    own, near, beyond = _given(skin, vanes, far)
    return _surely(suiting(own, near, beyond))


def plan(skin, vanes, far):
    """A PLAN of fewest QUARTERS that leads to far; CanNot() if none does."""
    own, near, beyond = _given(skin, vanes, far)
    return _surely(shortest(own, near, beyond))


def shortest(skin, near, far):
    """What plan tells, of what is a SKIN and VANES of it of one WISH; None if no PLAN leads."""
    k = suiting(skin, near, far)
    if k is None:
        return None
    return _turning_all(skin, near, [number - 4 * k for number in gap_of(skin, near, far)])


def _turning_all(skin, sides, left):
    """The PLAN of VANES that turns each FIELD by so many QUARTERS as left tells for it, on or back."""
    left = list(left)
    row = []
    # What bars a FIELD has to turn the same way as far or farther; as no TIGHT FIELD has to turn at all, some
    # FIELD is barred by none each time.
    while any([number != 0 for number in left]):
        for field in range(len(skin)):
            way = 1 if left[field] > 0 else -1
            if left[field] != 0 and not barring_fields(skin, sides, field, way):
                sides = turned_by(sides, field, way)
                left[field] -= way
                row.append((field, way))
    return tuple(row)


def is_plan(skin, vanes, far, thing):
    """Whether thing is a PLAN that leads to far, of however many QUARTERS."""
    own, near, beyond = _given(skin, vanes, far)
    return leads(own, near, beyond, thing)


def leads(skin, near, far, thing):
    """What is_plan tells, of what is a SKIN and VANES of it."""
    return isinstance(thing, tuple) and gone(skin, near, thing) == (far, None)


def stuck(skin, vanes, far):
    """The least set of one or two TIGHT FIELDS that keeps all PLANS from leading to far; CanNot() if one leads."""
    own, near, beyond = _given(skin, vanes, far)
    told = stuck_sets(own, near, beyond)
    return _surely(min(told) if told else None)


def stuck_sets(skin, near, far):
    """The list of the sets of one TIGHT FIELD that has come on by no multiple of four, or of two that have come
    on by unlike numbers, of what is a SKIN and VANES of it of one WISH."""
    numbers = gap_of(skin, near, far)
    tight = tight_by(skin, rows_of_steps(skin, near))
    alone = [(field,) for field in tight if numbers[field] % 4 != 0]
    return alone + [(one, two) for one in tight for two in tight if one < two and numbers[one] != numbers[two]]


def is_stuck(skin, near, far, thing):
    """Whether thing is one of the sets that stuck_sets tells."""
    return isinstance(thing, tuple) and are_numbers(thing, len(thing)) and thing in stuck_sets(skin, near, far)
