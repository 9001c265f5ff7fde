"""HEAPS of CUBES, their SQUARES and SKINS, and what comes of a CUBE put on."""

from whirlskin.corners import rounds, x_from
from whirlskin.errors import CanNot, Pinched, Unfit
from whirlskin.forms import are_numbers, as_tuples

# The six ways, ascending: along the axes 1 to 3, on or back.
WAYS = (-3, -2, -1, 1, 2, 3)
# For each way of a SQUARE the ways in which its SIDES 0 to 3 lie.
SIDE_WAYS = {1: (2, 3, -2, -3), 2: (3, 1, -3, -1), 3: (1, 2, -1, -2),
             -1: (3, 2, -3, -2), -2: (1, 3, -1, -3), -3: (2, 1, -2, -1)}
SIGNS = (-1, 0, 1)


def is_heap(thing):
    """Whether thing is a HEAP."""
    if not isinstance(thing, tuple) or len(thing) == 0 or not all([are_numbers(own, 3) for own in thing]):
        return False
    if not all([thing[at - 1] < thing[at] for at in range(1, len(thing))]):
        return False
    return _hang_together(thing)


def _hang_together(cubes):
    """Whether all these CUBES, all unlike, hang together by squares."""
    waiting = {cube: True for cube in cubes}
    reached = [cubes[0]]
    del waiting[cubes[0]]
    at = 0
    while at < len(reached):
        for way in WAYS:
            beside = _on(reached[at], way)
            if beside in waiting:
                del waiting[beside]
                reached.append(beside)
        at += 1
    return len(waiting) == 0


def _on(cube, way):
    """The CUBE one on from cube in this way."""
    more = 1 if way > 0 else -1
    return tuple([own + more if axis + 1 == abs(way) else own for axis, own in enumerate(cube)])


def given_heap(heap):
    """The HEAP that was handed in, in tuples; Unfit() if it is none."""
    own = as_tuples(heap, (None, 3))
    if not is_heap(own):
        raise Unfit()
    return own


def squares(heap):
    """The tuple of the SQUARES of heap, ascending."""
    return tuple(_squares_of(given_heap(heap)))


def _squares_of(heap):
    """The list of the SQUARES of what is a HEAP, ascending."""
    cubes = {cube: True for cube in heap}
    return [(cube, way) for cube in heap for way in WAYS if _on(cube, way) not in cubes]


def box(wide, deep, high):
    """The HEAP of all (x, y, z), x below wide, y below deep, z below high; Unfit() if one of these is below 1."""
    if wide < 1 or deep < 1 or high < 1:
        raise Unfit()
    return tuple([(x, y, z) for x in range(wide) for y in range(deep) for z in range(high)])


def is_pinched(heap):
    """Whether heap is pinched."""
    return _pinched(given_heap(heap))


def _pinched(heap):
    """What is_pinched tells, of what is a HEAP."""
    if _has_bare_edge(heap):
        return True
    around = _points_around(heap)
    return len(set(around)) < len(around)


def _has_bare_edge(heap):
    """Whether two CUBES of what is a HEAP touch at an edge alone."""
    cubes = {cube: True for cube in heap}
    for cube, way in _squares_of(heap):
        for out in SIDE_WAYS[way]:
            beside = _on(cube, out)
            if beside not in cubes and _on(beside, way) in cubes:
                return True
    return False


def _points_around(heap):
    """The list with the POINT round which each ROUND goes, of what is a HEAP without a bare edge."""
    faces = _squares_of(heap)
    return [_point_at(faces[row[0][0]], row[0][1]) for row in rounds(_sewn_squares(heap))]


def _point_at(square, side):
    """The POINT of square between its SIDES side - 1 and side."""
    cube, way = square
    ways = (way, SIDE_WAYS[way][side - 1], SIDE_WAYS[way][side])
    return tuple([own + 1 if axis + 1 in ways else own for axis, own in enumerate(cube)])


def _sewn_squares(heap):
    """The tuple with, for each SQUARE of what is a HEAP, the four CROSSINGS to which its SIDES are sewn."""
    cubes = {cube: True for cube in heap}
    faces = _squares_of(heap)
    place = {square: number for number, square in enumerate(faces)}
    rows = []
    for square in faces:
        seams = [_seam(cubes, square, out) for out in SIDE_WAYS[square[1]]]
        rows.append(tuple([(place[other], SIDE_WAYS[other[1]].index(back)) for other, back in seams]))
    return tuple(rows)


def _seam(cubes, square, out):
    """The pair of the SQUARE to which square is sewn at its SIDE in way out, and the way of the SIDE there."""
    cube, way = square
    beside = _on(cube, out)
    above = _on(beside, way)
    if above in cubes:
        return (above, -out), -way
    if beside in cubes:
        return (beside, way), -out
    return (cube, out), way


def has_hollow(heap):
    """Whether CUBES that are none of heap do not all hang together by squares."""
    return _hollow(given_heap(heap))


def _hollow(heap):
    """What has_hollow tells, of what is a HEAP."""
    cubes = {cube: True for cube in heap}
    # One CUBE more all round, and what is farther off hangs together with what is seen.
    wide, deep, high = [numbers_across(heap, axis, 1) for axis in range(3)]
    near = [(x, y, z) for x in wide for y in deep for z in high]
    return not _hang_together([cube for cube in near if cube not in cubes])


def numbers_across(heap, axis, more):
    """The list of the numbers along this axis from the least to the greatest of what is a HEAP, and so many more
    at both ends."""
    told = [cube[axis] for cube in heap]
    return list(range(min(told) - more, max(told) + more + 1))


def skin_of(heap):
    """The SKIN of heap; Pinched() if it is pinched, then CanNot() if it has a hollow."""
    own = given_heap(heap)
    _check_skin(own)
    return _sewn_squares(own)


def _check_skin(heap):
    """Pinched(), then CanNot(), if what is a HEAP has no SKIN."""
    if _pinched(heap):
        raise Pinched()
    if _hollow(heap):
        raise CanNot()


def points(heap):
    """The tuple with, for each CORNER of the SKIN of heap, its POINT; errors as skin_of."""
    own = given_heap(heap)
    _check_skin(own)
    return tuple(_points_around(own))


def touched(heap, cube):
    """The triple of how many POINTS, edges, sides of cube are of CUBES of heap, too; Unfit() if cube is of heap."""
    own = given_heap(heap)
    return _touched_by(own, _given_cube(own, cube))


def _given_cube(heap, cube):
    """The CUBE that was handed in, as a tuple; Unfit() if it is of what is a HEAP."""
    own = as_tuples(cube, (3,))
    if own in heap:
        raise Unfit()
    return own


def _touched_by(heap, cube):
    """What touched tells, of what is a HEAP and a CUBE that is not of it."""
    # A sign for each axis tells a part of cube: that which lies farthest in the ways of those that are not 0.
    parts = [(x, y, z) for x in SIGNS for y in SIGNS for z in SIGNS if (x, y, z) != (0, 0, 0)]
    apart = [tuple([own - start for own, start in zip(other, cube)]) for other in heap]
    met = [part for part in parts if any([_has_part(own, part) for own in apart])]
    return tuple([len([part for part in met if part.count(0) == zeros]) for zeros in range(3)])


def _has_part(apart, part):
    """Whether the CUBE that is so far apart from another one has this part of that one."""
    return all([own in (0, sign) for own, sign in zip(apart, part)])


def put_change(heap, cube):
    """By how much X grows if cube is put on; Unfit() if it is of heap or touches by no side, then errors as
    skin_of for heap, then for heap with cube."""
    own = given_heap(heap)
    more = _given_cube(own, cube)
    if _touched_by(own, more)[2] == 0:
        raise Unfit()
    both = tuple(sorted(own + (more,)))
    _check_skin(own)
    _check_skin(both)
    return x_from(_sewn_squares(both)) - x_from(_sewn_squares(own))


def heap_mirrored(heap):
    """The HEAP of (y, x, z) for each CUBE (x, y, z) of heap."""
    return tuple(sorted([(y, x, z) for x, y, z in given_heap(heap)]))
