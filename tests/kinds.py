"""Things of any kind, and values with lists in the place of tuples."""

import itertools

from tests.samples import CUBE, LOOP, PILLOW, TWIN

# What is no SKIN, no VANES and no RING, whatever SKIN is at hand.
NOTHINGS = [
    None, True, False, 0, 1, -1, 4, 10 ** 30, "", "0", "abcd", "((0, 1),)", (), [], ((),), [[]], ("",), (None,),
    (True,), (False, False), ("0", "1"), (0.0,), ({},), {}, {0: 0}, {0, 1}, 1.5, b"\x00\x01", range(1), object(),
    (((((((((((())))))))))),), ((0,),), ((0, 0, 0),), (((0, 1), (0, 0)),), (4,), (-1,), (0, 9),
]


def with_cell(skin, field, side, cell):
    """skin with another thing in the place of the CROSSING to which (field, side) is sewn."""
    rows = [list(row) for row in skin]
    rows[field][side] = cell
    return tuple(tuple(row) for row in rows)


def endless():
    """A list that holds itself four times."""
    own = []
    own.extend([own] * 4)
    return own


# What looks like a SKIN at first sight, in tuples throughout.
NEARLY_SKINS = {
    "sewn to itself throughout": (((0, 0), (0, 1), (0, 2), (0, 3)),),
    "two sides sewn to themselves": (((0, 0), (0, 3), (0, 2), (0, 1)),),
    "sewn to themselves in one field of two": (TWIN[0], ((0, 2), (1, 1), (0, 0), (1, 3))),
    "not sewn back": (((0, 1), (0, 2), (0, 3), (0, 0)),),
    "two to one": (((0, 1), (0, 0), (0, 1), (0, 0)),),
    "two loops": LOOP + (((1, 2), (1, 3), (1, 0), (1, 1)),),
    "loop twice": LOOP + LOOP,
    "two pillows": PILLOW + tuple(tuple((field + 2, side) for field, side in row) for row in PILLOW),
    "side 4": with_cell(LOOP, 0, 0, (0, 4)),
    "side -1": with_cell(PILLOW, 0, 1, (1, -1)),
    "side -2, from the end that of side 2": with_cell(LOOP, 0, 0, (0, -2)),
    "field beyond": with_cell(PILLOW, 0, 0, (2, 0)),
    "field below": with_cell(PILLOW, 0, 0, (-1, 0)),
    "True for a field": with_cell(PILLOW, 0, 0, (True, 0)),
    "False for a field": with_cell(LOOP, 0, 0, (False, 2)),
    "True for a side": with_cell(LOOP, 0, 3, (0, True)),
    "False for a side": with_cell(LOOP, 0, 2, (0, False)),
    "a string for a field": with_cell(PILLOW, 0, 0, ("1", 0)),
    "a string for a crossing": with_cell(PILLOW, 0, 0, "10"),
    "None for a side": with_cell(PILLOW, 0, 0, (1, None)),
    "None for a crossing": with_cell(PILLOW, 0, 0, None),
    "a number for a crossing": with_cell(PILLOW, 0, 0, 1),
    "a part of a number": with_cell(PILLOW, 0, 0, (1.0, 0)),
    "a crossing too long": with_cell(PILLOW, 0, 0, (1, 0, 0)),
    "a crossing too short": with_cell(PILLOW, 0, 0, (1,)),
    "an empty crossing": with_cell(PILLOW, 0, 0, ()),
    "a row too short": (PILLOW[0], PILLOW[1][:3]),
    "a row too long": (PILLOW[0] + ((1, 0),), PILLOW[1]),
    "an empty row": PILLOW + ((),),
    "a row that is a number": (PILLOW[0], 1),
    "a row that is a string": (PILLOW[0], "0000"),
    "a row too few": CUBE[:5],
    "a row too many": PILLOW + LOOP,
    "one row more deep": (PILLOW,),
    "a row alone": LOOP[0],
    "a crossing alone": (0, 2),
    "twelve deep": with_cell(LOOP, 0, 0, ((((((((((0,), 1), 2), 3), 4), 5), 6), 7), 8), 9)),
}


def not_skins():
    return NOTHINGS + list(NEARLY_SKINS.values()) + [endless()]


def relisted(value, depths, at=0):
    """value with lists in the place of its tuples at these depths."""
    if not isinstance(value, tuple):
        return value
    parts = [relisted(own, depths, at + 1) for own in value]
    return parts if at in depths else tuple(parts)


def depth_of(value):
    if not isinstance(value, tuple):
        return 0
    return 1 + max([depth_of(own) for own in value], default=0)


def in_lists(value):
    """value with lists in the place of tuples, at each choice of its depths but at none."""
    many = depth_of(value)
    for size in range(1, many + 1):
        for depths in itertools.combinations(range(many), size):
            yield relisted(value, depths)
