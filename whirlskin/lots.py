"""Lots: all VANES of a SKIN, those of one WISH, how many these are."""

from whirlskin.errors import TooMany, Unfit
from whirlskin.lays import bar_of, laid_by
from whirlskin.rings import laid_over
from whirlskin.rooms import rooms_from
from whirlskin.skins import first_ways, given_skin, sewn
from whirlskin.vanes import given_vanes, rows_of_steps
from whirlskin.whirls import wish_by
from whirlskin.wishes import given_wish

# VANES come four at once, all turned by 0 to 3: of more than 400 of them more than 100 have unlike STEPS.
MOST = 100


def all_vanes(skin):
    """The list, ascending, of all VANES; TooMany() if there are more than 400."""
    return _with_turns(_unlike_vanes(given_skin(skin)))


def _with_turns(rows):
    """The list, ascending, of these VANES, all turned by 0 to 3."""
    return sorted([tuple([(side + turn) % 4 for side in row]) for row in rows for turn in range(4)])


def _unlike_vanes(skin):
    """The list of one of all VANES of what is a SKIN that have the same STEPS; TooMany() as all_vanes."""
    order = [0] + [sewn(skin, crossing)[0] for crossing in first_ways(skin)]
    # From afar to FIELD 0 each FIELD but the last has a neighbour that does not stand yet, which
    # leaves it a SIDE: so it hardly ever comes to an end too soon.
    order = order[::-1]
    rows = _rows_behind(skin, order, (), {})
    if len(rows) > MOST:
        raise TooMany()
    return [tuple([row[order.index(field)] for field in range(len(skin))]) for row in rows]


def _rows_behind(skin, order, placed, kept):
    """The list of the rows of SIDES for the FIELDS of order that make VANES with the SIDES placed for the first
    ones of it: cut off behind MOST + 1 of them."""
    if len(placed) == len(order):
        return [()]
    # What can stand behind only hangs on the SIDES of those FIELDS that have a neighbour there.
    key = (len(placed), _sides_at_rim(skin, order, placed))
    if key not in kept:
        rows = []
        for side in _free_sides(skin, order, placed):
            if len(rows) <= MOST:
                behind = _rows_behind(skin, order, placed + (side,), kept)
                rows = rows + [(side,) + row for row in behind]
        kept[key] = rows[:MOST + 1]
    return kept[key]


def _sides_at_rim(skin, order, placed):
    """The tuple of the SIDES placed on FIELDS that have a neighbour behind these in order."""
    behind = order[len(placed):]
    fields = order[:len(placed)]
    return tuple([side for field, side in zip(fields, placed) if any([own[0] in behind for own in skin[field]])])


def _free_sides(skin, order, placed):
    """The list of the SIDES that the next FIELD of order can have beside those placed."""
    if not placed:
        return [0]
    field = order[len(placed)]
    barred = {}
    for side in range(4):
        other, back = skin[field][side]
        if other in order[:len(placed)]:
            flat = laid_over(skin, (other, back), placed[order.index(other)])
            barred[(flat + 2) % 4] = True
    return [side for side in range(4) if side not in barred]


def wishes(skin):
    """The list, ascending, of the WISHES that some VANES have; TooMany() as all_vanes."""
    own = given_skin(skin)
    return sorted({wish_by(own, rows_of_steps(own, row)) for row in _unlike_vanes(own)})


def lot(skin, wish):
    """The list, ascending, of the VANES that have this WISH; TooMany() as all_vanes."""
    own = given_skin(skin)
    aim = given_wish(own, wish)
    return _with_turns([row for row in _unlike_vanes(own) if wish_by(own, rows_of_steps(own, row)) == aim])


def many(skin, wish):
    """How many VANES have this WISH; TooMany() if they are more than 400."""
    own = given_skin(skin)
    told = rows_of_wish(own, given_wish(own, wish), MOST)
    if told > MOST:
        raise TooMany()
    return 4 * told


def rows_of_wish(skin, wish, most):
    """How many rows of STEPS VANES with this WISH have, of what is a SKIN; some number above most if more than that."""
    if bar_of(skin, wish) is not None:
        return 0
    steps = rows_of_steps(skin, laid_by(skin, wish))
    rooms = [rooms_from(skin, steps, (field,)) for field in range(len(skin))]
    # Numbers for some FIELDS that keep within the rooms of each two of them can be gone on with on all others:
    # there are never fewer rows for more FIELDS.
    rows = [(0,)]
    for field in range(1, len(skin)):
        if len(rows) <= most:
            rows = [row + (number,) for row in rows for number in _numbers_next(rooms, row, field)]
    return len(rows)


def _numbers_next(rooms, row, field):
    """The list of the numbers that FIELD field can have behind the row of those of all FIELDS below it."""
    least = max([number - rooms[field][other] for other, number in enumerate(row)])
    greatest = min([number + rooms[other][field] for other, number in enumerate(row)])
    return list(range(least, greatest + 1))


def place_of(skin, vanes):
    """The number of these VANES in all_vanes; TooMany() as there."""
    own = given_skin(skin)
    sides = given_vanes(own, vanes)
    return _with_turns(_unlike_vanes(own)).index(sides)


def vanes_at(skin, number):
    """The VANES with this number in all_vanes; TooMany() as there, Unfit() if there are none."""
    rows = all_vanes(skin)
    if not 0 <= number < len(rows):
        raise Unfit()
    return rows[number]
