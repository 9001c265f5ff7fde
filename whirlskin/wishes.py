"""WISHES for WHIRLS and TURNINGS, the WIDE STEPS that fit them, what RINGS are asked."""

from whirlskin.corners import ends_of, numbers_at, rounds, x_from
from whirlskin.errors import CanNot, Unfit
from whirlskin.forms import are_numbers, as_tuples
from whirlskin.rings import given_ring, laid_over, rest_round, ring_round
from whirlskin.skins import all_crossings, first_ways, given_skin, sewn
from whirlskin.trees import joining, rings_of_handles
from whirlskin.vanes import over_ring


def is_wish(skin, thing):
    """Whether thing is a WISH by its form."""
    return has_wish_form(given_skin(skin), thing)


def has_wish_form(skin, thing):
    """What is_wish tells, of what is a SKIN."""
    if not isinstance(thing, tuple) or len(thing) != 2:
        return False
    return are_numbers(thing[0], len(rounds(skin))) and are_numbers(thing[1], 2 - x_from(skin))


def given_wish(skin, wish):
    """The WISH of what is a SKIN that was handed in, in tuples; Unfit() if it is none."""
    own = as_tuples(wish, (2, None))
    if not has_wish_form(skin, own):
        raise Unfit()
    return own


def bars_first(skin, wish):
    """("sum",) if the whirls do not come to X; else ("rest", number) with the least that bars; else None."""
    own = given_skin(skin)
    return first_bar(own, given_wish(own, wish))


def first_bar(skin, wish):
    """What bars_first tells, of what is a SKIN and a WISH of it."""
    if sum_bars(skin, wish):
        return ("sum",)
    numbers = barring_rests(skin, wish)
    return ("rest", numbers[0]) if numbers else None


def sum_bars(skin, wish):
    """Whether the whirls of the WISH do not come to X."""
    return sum(wish[0]) != x_from(skin)


def barring_rests(skin, wish):
    """The list, ascending, of the numbers of the HANDLE RINGS whose turning and REST are no multiple of four."""
    rests = [rest_round(skin, ring) for ring in rings_of_handles(skin)]
    return [number for number, turn in enumerate(wish[1]) if (turn + rests[number]) % 4 != 0]


def wants_by(skin, whirls):
    """The tuple of what the STEPS round each CORNER have to come to for these whirls."""
    return tuple([4 * whirl + len(row) - 4 for whirl, row in zip(whirls, rounds(skin))])


def wide_steps(skin, wish):
    """WIDE STEPS that fit wish: 0 over the FIELD TREE, the turnings over LOOSE EDGES."""
    own = given_skin(skin)
    aim = given_wish(own, wish)
    if first_bar(own, aim) is not None:
        raise CanNot()
    return wide_by(own, aim)


def wide_by(skin, wish):
    """What wide_steps tells, of what is a SKIN and a WISH of it that bars_first lets pass."""
    rows = [[0, 0, 0, 0] for _ in skin]
    tree, others = joining(skin)
    for edge, turn in zip(others, wish[1]):
        _set_step(skin, rows, edge, turn)
    wanted = wants_by(skin, wish[0])
    around = [ring_round(row) for row in rounds(skin)]
    # Inward from the last CORNER: of all its EDGES only that towards CORNER 0 is still open.
    for crossing, corner in _outward(skin, tree)[::-1]:
        _set_step(skin, rows, crossing, wanted[corner] - over_ring(rows, around[corner]))
    return tuple([tuple(row) for row in rows])


def _set_step(skin, rows, crossing, number):
    """Put this number into rows over crossing, the contrary one over its contrary."""
    field, side = crossing
    other, back = sewn(skin, crossing)
    rows[field][side] = number
    rows[other][back] = -number


def _outward(skin, tree):
    """The list of pairs (crossing, corner): each CORNER but 0, come to over the CORNER TREE from CORNER 0 on.

    The crossing is the one of its EDGE that is of the RING round this CORNER.
    """
    numbers = numbers_at(skin)
    found = {0: True}
    told = []
    while len(told) < len(tree):
        for edge in tree:
            first, second = ends_of(numbers, edge)
            if first in found and second not in found:
                found[second] = True
                told.append((edge, second))
            elif second in found and first not in found:
                found[first] = True
                told.append((sewn(skin, edge), first))
    return told


def fits(skin, wish, thing):
    """Whether thing is WIDE STEPS that fit wish."""
    own = given_skin(skin)
    return wide_fit(own, given_wish(own, wish), thing)


def wide_fit(skin, wish, thing):
    """What fits tells, of what is a SKIN and a WISH of it."""
    if not _are_wide(skin, thing) or not _are_by_four(skin, thing):
        return False
    whirls, turnings = wish
    around = [over_ring(thing, ring_round(row)) for row in rounds(skin)]
    along = [over_ring(thing, ring) for ring in rings_of_handles(skin)]
    return tuple(around) == wants_by(skin, whirls) and tuple(along) == turnings


def _are_wide(skin, thing):
    """Whether thing is WIDE STEPS, of whatever WISH."""
    if not isinstance(thing, tuple) or len(thing) != len(skin):
        return False
    if not all([are_numbers(row, 4) for row in thing]):
        return False
    return all([over_ring(thing, (crossing, sewn(skin, crossing))) == 0 for crossing in all_crossings(skin)])


def _are_by_four(skin, rows):
    """Whether rows, WIDE STEPS, are by four the STEPS of some SIDES."""
    sides = sides_by(skin, rows)
    for field, side in all_crossings(skin):
        flat = laid_over(skin, (field, side), sides[field])
        if (flat + rows[field][side] - sides[skin[field][side][0]]) % 4 != 0:
            return False
    return True


def sides_by(skin, rows):
    """The list of SIDES, 0 on FIELD 0, that have by four these STEPS over the FIELD TREE."""
    sides = [0 for _ in skin]
    for field, side in first_ways(skin):
        flat = laid_over(skin, (field, side), sides[field])
        sides[skin[field][side][0]] = (flat + rows[field][side]) % 4
    return sides


def asked(skin, wish, ring):
    """What ring is asked by wish, a number."""
    own = given_skin(skin)
    aim = given_wish(own, wish)
    row = given_ring(own, ring)
    if first_bar(own, aim) is not None:
        raise CanNot()
    return over_ring(wide_by(own, aim), row)
