"""CORNERS: the rounds of FIELDS at which sides end, their LACKS, X."""

from whirlskin.errors import NoCorner
from whirlskin.skins import all_crossings, check_field, given_skin


def corners(skin):
    """The tuple of the CORNERS of skin, each the tuple of the pairs of its ROUND."""
    return rounds(given_skin(skin))


def rounds(skin):
    """The CORNERS of what is a SKIN, as corners tells them."""
    found = {}
    rows = []
    # Pairs are taken ascending, so each ROUND is come to at its least one.
    for pair in all_crossings(skin):
        if pair not in found:
            row = _round_from(skin, pair)
            rows.append(row)
            for own in row:
                found[own] = True
    return tuple(rows)


def _round_from(skin, pair):
    """The ROUND of this pair of a FIELD and a SIDE, from it on."""
    row = [pair]
    field, side = skin[pair[0]][(pair[1] - 1) % 4]
    while (field, side) != pair:
        row.append((field, side))
        field, side = skin[field][(side - 1) % 4]
    return tuple(row)


def check_corner(rows, corner):
    """NoCorner(corner) if there is none with this number among the CORNERS that rows tell."""
    if not 0 <= corner < len(rows):
        raise NoCorner(corner)


def numbers_at(skin):
    """The dict with the number of the CORNER of each pair of a FIELD and a SIDE, of what is a SKIN."""
    return {pair: number for number, row in enumerate(rounds(skin)) for pair in row}


def corner_at(skin, field, side):
    """The number of the CORNER that has the pair (field, side)."""
    own = given_skin(skin)
    check_field(own, field)
    return numbers_at(own)[field, side]


def corners_of(skin, field):
    """The tuple of the numbers of the CORNERS at the SIDES 0 to 3 of field."""
    own = given_skin(skin)
    check_field(own, field)
    return four_corners(numbers_at(own), field)


def four_corners(numbers, field):
    """What corners_of tells, by the numbers that numbers_at tells."""
    return tuple([numbers[field, side] for side in range(4)])


def between(skin, crossing):
    """The pair of the numbers of the CORNERS at which the EDGE of crossing ends."""
    own = given_skin(skin)
    check_field(own, crossing[0])
    return ends_of(numbers_at(own), crossing)


def ends_of(numbers, crossing):
    """What between tells, by the numbers that numbers_at tells."""
    field, side = crossing
    return numbers[field, side], numbers[field, (side + 1) % 4]


def lacks(skin):
    """The tuple of the LACKS of all CORNERS."""
    return tuple([4 - len(row) for row in corners(skin)])


def sizes(skin):
    """The triple of how many FIELDS, EDGES, CORNERS there are."""
    own = given_skin(skin)
    return len(own), 2 * len(own), len(rounds(own))


def x_of(skin):
    """X of skin: its CORNERS less its FIELDS."""
    return x_from(given_skin(skin))


def x_from(skin):
    """X of what is a SKIN."""
    return len(rounds(skin)) - len(skin)
