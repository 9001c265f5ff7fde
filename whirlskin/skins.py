"""SKINS: fields sewn side to side, their EDGES, their FIELDS named anew."""

from whirlskin.errors import NoField, Unfit
from whirlskin.forms import are_sides, as_tuples, is_below, is_crossing


def is_skin(thing):
    """Whether thing is a SKIN, of however many FIELDS."""
    return _has_form(thing) and _is_sewn_back(thing) and len(first_ways(thing)) == len(thing) - 1


def _has_form(thing):
    """Whether thing has for each FIELD four CROSSINGS, as tuples."""
    if not isinstance(thing, tuple) or len(thing) == 0:
        return False
    return all([_is_row(own, len(thing)) for own in thing])


def _is_row(thing, many):
    """Whether thing is a tuple of four CROSSINGS of so many FIELDS."""
    return isinstance(thing, tuple) and len(thing) == 4 and all([is_crossing(own, many) for own in thing])


def _is_sewn_back(skin):
    """Whether each CROSSING is sewn to another one that is sewn to it."""
    for crossing in all_crossings(skin):
        contrary = sewn(skin, crossing)
        if contrary == crossing or sewn(skin, contrary) != crossing:
            return False
    return True


def given_skin(skin):
    """The SKIN that was handed in, in tuples; Unfit() if it is none."""
    own = as_tuples(skin, (None, 4, 2))
    if not is_skin(own):
        raise Unfit()
    return own


def check_field(skin, field):
    """NoField(field) if the SKIN has no such FIELD."""
    if not 0 <= field < len(skin):
        raise NoField(field)


def all_crossings(skin):
    """The list of the CROSSINGS of all FIELDS, ascending."""
    return [(field, side) for field in range(len(skin)) for side in range(4)]


def sewn(skin, crossing):
    """The CROSSING to which crossing is sewn."""
    return skin[crossing[0]][crossing[1]]


def first_ways(skin):
    """The list of the CROSSINGS over which FIELDS are first come to from FIELD 0, in that order."""
    found = {0: True}
    fields = [0]
    ways = []
    at = 0
    while at < len(fields):
        for side in range(4):
            other = skin[fields[at]][side][0]
            if other not in found:
                found[other] = True
                fields.append(other)
                ways.append((fields[at], side))
        at += 1
    return ways


def edges(skin):
    """The list, ascending, of the EDGES of skin."""
    return edges_of(given_skin(skin))


def edges_of(skin):
    """The EDGES of what is a SKIN, as edges tells them."""
    return [own for own in all_crossings(skin) if own < sewn(skin, own)]


def sewn_to(skin, field, side):
    """The CROSSING to which (field, side) is sewn."""
    own = given_skin(skin)
    check_field(own, field)
    return own[field][side]


def neighbours(skin, field):
    """The set of the other FIELDS to which the CROSSINGS of field lead."""
    own = given_skin(skin)
    check_field(own, field)
    return tuple(sorted({crossing[0] for crossing in own[field] if crossing[0] != field}))


def renamed(skin, order, turns):
    """The SKIN in which FIELD order[i] is FIELD i, and its SIDE s is SIDE s - turns[i]."""
    own = given_skin(skin)
    fields, quarters = given_names(own, order, turns)
    return with_names(own, fields, quarters)


def given_names(skin, order, turns):
    """The pair of order and turns, in tuples; Unfit() if they do not name the FIELDS of skin anew."""
    fields, quarters = as_tuples(order, (None,)), as_tuples(turns, (None,))
    if not _is_order(skin, fields) or not are_sides(quarters, len(skin)):
        raise Unfit()
    return fields, quarters


def _is_order(skin, thing):
    """Whether thing is a tuple of all FIELDS of skin, each once."""
    if not isinstance(thing, tuple) or not all([is_below(own, len(skin)) for own in thing]):
        return False
    return sorted(thing) == list(range(len(skin)))


def with_names(skin, order, turns):
    """What renamed tells, of what is a SKIN, an ORDER of it, and turns."""
    place = {field: at for at, field in enumerate(order)}
    rows = []
    for field, turn in zip(order, turns):
        row = [skin[field][(side + turn) % 4] for side in range(4)]
        rows.append(tuple([(place[other], (side - turns[place[other]]) % 4) for other, side in row]))
    return tuple(rows)


def _begun(skin, crossing):
    """The SKIN renamed as it is begun at crossing."""
    order, turns = [crossing[0]], [crossing[1]]
    found = {crossing[0]: True}
    at = 0
    while at < len(order):
        for side in range(4):
            other, back = skin[order[at]][(side + turns[at]) % 4]
            if other not in found:
                found[other] = True
                order.append(other)
                turns.append(back)
        at += 1
    return with_names(skin, order, turns)


def alike(skin, other):
    """Whether other is skin renamed, by whatever ORDER and turns."""
    own, second = given_skin(skin), given_skin(other)
    return len(own) == len(second) and _least_begun(own) == _least_begun(second)


def least_form(skin):
    """The least of the SKINS that come of skin begun at each of its CROSSINGS."""
    return _least_begun(given_skin(skin))


def _least_begun(skin):
    """What least_form tells, of what is a SKIN."""
    return min([_begun(skin, crossing) for crossing in all_crossings(skin)])
