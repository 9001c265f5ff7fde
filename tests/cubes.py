"""HEAPS of unlike kinds, and what is told of them by POINTS and edges alone."""

import itertools

from tests.kinds import NOTHINGS, endless
from tests.samples import AXES, Dice, WAYS, box_of, moved


def heap(cubes):
    return tuple(sorted(set(cubes)))


def less(cubes, *out):
    return heap(own for own in cubes if own not in out)


def shifted(cubes, more):
    return heap(tuple(own + step for own, step in zip(cube, more)) for cube in cubes)


ONE = ((0, 0, 0),)
BEND = ((0, 0, 0), (0, 0, 1), (1, 0, 0))
RING = less(box_of(3, 3, 1), (1, 1, 0))
ARCH = ((0, 0, 0), (0, 0, 1), (1, 0, 1), (1, 1, 0), (1, 1, 1))
HOLLOW = less(box_of(3, 3, 3), (1, 1, 1))
# Two CUBES that touch at a POINT alone, hanging together by a way round it.
HORN = heap([(0, 0, 0), (-1, 0, 0), (-1, 0, 1), (-1, 0, 2), (-1, 1, 2), (0, 1, 2), (1, 1, 2), (1, 1, 1)])
# Two CUBES that are none of it touch at a POINT alone, all others round it are of it.
NOTCHED = less(box_of(2, 2, 2), (0, 0, 0), (1, 1, 1))
# A hollow that touches what is round it at an edge, at a POINT.
LEAK_AT_EDGE = less(HOLLOW, (1, 0, 0))
LEAK_AT_POINT = less(HOLLOW, (0, 0, 0))
# One CUBE more shuts what would be a hollow: straight on, and round a bend, where two then touch at an edge alone.
LONG_HOLLOW = less(box_of(3, 3, 3), (1, 1, 1), (1, 1, 0))
BENT_HOLLOW = heap(less(box_of(3, 3, 3), (1, 1, 1), (1, 1, 0), (1, 0, 0))
                   + tuple((x, y, -1) for x in range(3) for y in (1, 2)))

PLAIN = [ONE, BEND, RING, less(RING, (1, 0, 0)), heap(box_of(2, 2, 2)), heap(box_of(1, 1, 30)), heap(box_of(5, 3, 2)), LONG_HOLLOW, BENT_HOLLOW,
         less(box_of(3, 5, 1), (1, 1, 0), (1, 3, 0)), heap([(0, 0, 0), (1, 0, 0), (0, 1, 0), (0, 0, 1)]),
         heap([(0, 0, 0), (-1, 0, 0), (0, -1, 0), (0, 0, -1), (1, 0, 0), (0, 1, 0), (0, 0, 1)]),
         heap([(0, 0, 0), (1, 0, 0), (1, 1, 0), (1, 1, 1), (2, 1, 1)]), less(box_of(3, 3, 3), (1, 1, 0), (1, 1, 1), (1, 1, 2)),
         shifted(RING, (-7, 10 ** 6 - 2, -10 ** 6)), shifted(box_of(3, 2, 1), (-2, -1, -1)),
         heap([(x, 0, 0) for x in range(11)] + [(0, y, 0) for y in range(10)] + [(0, 0, z) for z in range(11)])]
BY_EDGE = [ARCH, RING[1:], LEAK_AT_EDGE, heap([(0, 0, 0), (0, 0, 1), (0, 1, 1), (1, 1, 1), (1, 1, 0)])]
BY_POINT = [HORN, NOTCHED, LEAK_AT_POINT]
WITH_HOLLOW = [HOLLOW, LEAK_AT_EDGE, LEAK_AT_POINT, heap(HOLLOW + ((3, 0, 0), (4, 0, 0)))]


def grown_heap(dice, many, tight):
    """A HEAP of so many CUBES; the more tight, the more of those CUBES are put on that touch by many sides."""
    cubes = {(dice.below(9) - 4, dice.below(9) - 4, dice.below(9) - 4)}
    while len(cubes) < many:
        rim = sorted({moved(own, way) for own in cubes for way in WAYS} - cubes)
        some = [dice.pick(rim) for _ in range(1 + tight)]
        cubes.add(max(some, key=lambda own: (sum(moved(own, way) in cubes for way in WAYS), own)))
    return heap(cubes)


def many_heaps():
    """HEAPS of 1 to 30 CUBES, pinched and not, with a hollow and without."""
    dice, rows = Dice(130), PLAIN + BY_EDGE + BY_POINT + WITH_HOLLOW
    for tight in (0, 0, 1, 3, 8, 20):
        rows = rows + [grown_heap(dice, many, tight) for many in (2, 3, 4, 5, 6, 8, 11, 15, 22, 30)]
    return rows


def faces_of(cubes):
    """For each SQUARE, by its CUBE and its way, the set of its four POINTS."""
    told = {}
    for cube in cubes:
        for way in WAYS:
            if moved(cube, way) not in cubes:
                told[cube, way] = {own for own in points_of(cube) if own[abs(way) - 1] == cube[abs(way) - 1] + (way > 0)}
    return told


def points_of(cube):
    return {tuple(own + step for own, step in zip(cube, more)) for more in itertools.product((0, 1), repeat=3)}


def edges_of(cube):
    """The twelve edges, each as the set of its two POINTS."""
    return {frozenset(own) for own in itertools.combinations(points_of(cube), 2)
            if sum(one != two for one, two in zip(*own)) == 1}


def sides_of(cube):
    """The six sides, each as the set of its four POINTS."""
    return {frozenset(own for own in points_of(cube) if own[axis] == cube[axis] + more)
            for axis in range(3) for more in (0, 1)}


def side_points(cube, way, out):
    """The two POINTS at the ends of the SIDE in way out of SQUARE (cube, way)."""
    def farthest(own, to):
        return own[abs(to) - 1] == cube[abs(to) - 1] + (to > 0)
    return {own for own in points_of(cube) if farthest(own, way) and farthest(own, out)}


def joined(rows, touch):
    """How many parts rows fall into, those joined that touch."""
    left, parts = list(rows), 0
    while left:
        parts += 1
        reached = [left.pop()]
        for own in reached:
            near = [other for other in left if touch(own, other)]
            reached += near
            left = [other for other in left if other not in near]
    return parts


def has_bare_edge(cubes):
    """Whether some edge is of two CUBES alone that share no more than it."""
    met = {}
    for cube in cubes:
        for edge in edges_of(cube):
            met.setdefault(edge, []).append(cube)
    return any(len(own) == 2 and sum(one != two for one, two in zip(*own)) == 2 for own in met.values())


def has_bare_point(cubes):
    """Whether the SQUARES round some POINT fall into parts that share no edge there."""
    faces = faces_of(cubes)
    for point in {own for face in faces.values() for own in face}:
        around = [face for face in faces.values() if point in face]
        if joined(around, lambda one, two: len(one & two) == 2) > 1:
            return True
    return False


def has_hole(cubes):
    """Whether what is none of the CUBES falls into parts, looked at two CUBES farther than they reach."""
    spans = [range(min(own[axis] for own in cubes) - 2, max(own[axis] for own in cubes) + 3) for axis in range(3)]
    left = set(itertools.product(*spans)) - set(cubes)
    reached = [left.pop()]
    for own in reached:
        near = {moved(own, way) for way in WAYS} & left
        left -= near
        reached += near
    return bool(left)


def not_heaps():
    """What is no HEAP, whatever it looks like."""
    cells = [None, True, False, "0", (), (0,), 1.0, ((0,),), [0]]
    rows = [((0, 0, own),) for own in cells] + [((own, 0, 0),) for own in cells]
    rows += [((0, 0, 0), (0, 0, 0)), ((0, 0, 1), (0, 0, 0)), ((0, 0, 0), (0, 0, 2)), ((0, 0, 0), (1, 1, 0)), ((0, 0, 0), (1, 1, 1)),
             ((0, 0, 0), (0, 0, 1), (0, 0, 1)), ((0, 0, 0), (0, 0, 1), (0, 0, 3), (0, 0, 4)), (0, 0, 0), ((0, 0),), ((0, 0, 0, 0),),
             ((0, 0, 0), ()), ((0, 0, 0), None), ((0, 0, 0), 1), ((0, 0, 0), "001"), ("000",), (((0, 0, 0),),), ((0, 0, 0), (0, 0, 1), (0, 0)),
             {(0, 0, 0)}, {(0, 0, 0): 1}, ({0, 1, 2},), "at 0 0 0\n#\n", ((-1, 0, 0), (-3, 0, 0), (-2, 0, 0)), endless(),
             (endless(),), ((0, 0, endless()),)]
    return [own for own in NOTHINGS if own != ((0, 0, 0),)] + rows


assert set(AXES) == set(WAYS)
