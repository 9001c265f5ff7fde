"""The FIELD TREE, the CORNER TREE, LOOSE EDGES and the HANDLE RINGS."""

from whirlskin.corners import ends_of, numbers_at, rounds, x_from
from whirlskin.rings import contraries
from whirlskin.skins import check_field, edges_of, first_ways, given_skin, sewn


def field_tree(skin):
    """The list of the CROSSINGS of the FIELD TREE, in the order in which FIELDS are come to."""
    return first_ways(given_skin(skin))


def corner_tree(skin):
    """The list, ascending, of the EDGES of the CORNER TREE."""
    return joining(given_skin(skin))[0]


def loose(skin):
    """The list, ascending, of the LOOSE EDGES."""
    return joining(given_skin(skin))[1]


def joining(skin):
    """The pair of lists: the EDGES of the CORNER TREE, the LOOSE EDGES, of what is a SKIN."""
    numbers = numbers_at(skin)
    lots = list(range(len(rounds(skin))))
    tree, others = [], []
    for edge in _edges_off_tree(skin):
        first, second = ends_of(numbers, edge)
        kept, joined = lots[first], lots[second]
        if kept == joined:
            others.append(edge)
        else:
            tree.append(edge)
            lots = [kept if own == joined else own for own in lots]
    return tree, others


def _edges_off_tree(skin):
    """The list, ascending, of the EDGES that have no CROSSING of the FIELD TREE."""
    taken = {}
    for crossing in first_ways(skin):
        taken[crossing] = True
        taken[sewn(skin, crossing)] = True
    return [edge for edge in edges_of(skin) if edge not in taken]


def handle_rings(skin):
    """The tuple of the HANDLE RINGS, one for each LOOSE EDGE."""
    return rings_of_handles(given_skin(skin))


def rings_of_handles(skin):
    """What handle_rings tells, of what is a SKIN."""
    comes = _comes_over(skin)
    rows = []
    for edge in joining(skin)[1]:
        back = contraries(skin, _way(comes, sewn(skin, edge)[0]))
        rows.append(_way(comes, edge[0]) + (edge,) + back)
    return tuple(rows)


def handles(skin):
    """How many HANDLES skin has."""
    return (2 - x_from(given_skin(skin))) // 2


def way_to(skin, field):
    """The tuple of the CROSSINGS of the FIELD TREE that lead from FIELD 0 to field."""
    own = given_skin(skin)
    check_field(own, field)
    return _way(_comes_over(own), field)


def _comes_over(skin):
    """The dict with, for each FIELD but 0, the CROSSING of the FIELD TREE that leads to it."""
    return {sewn(skin, crossing)[0]: crossing for crossing in first_ways(skin)}


def _way(comes, field):
    """What way_to tells, by the dict that _comes_over tells."""
    back = []
    while field != 0:
        back.append(comes[field])
        field = comes[field][0]
    return tuple(back[::-1])
