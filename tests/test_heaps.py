"""Promise [20]: heaps.py."""

import itertools
import unittest

from tests.cubes import (ARCH, BEND, BENT_HOLLOW, BY_EDGE, BY_POINT, HOLLOW, HORN, LEAK_AT_EDGE, LEAK_AT_POINT, LONG_HOLLOW, ONE, PLAIN,
                         RING, WITH_HOLLOW, edges_of, faces_of, has_bare_edge, has_bare_point, has_hole, heap, less,
                         many_heaps, not_heaps, points_of, shifted, side_points, sides_of)
from tests.samples import AXES, CUBE, Dice, WAYS, box_of, heap_skin, moved
from whirlskin.corners import corners, x_of
from whirlskin.errors import CanNot, Pinched, Unfit
from whirlskin.heaps import (box, has_hollow, heap_mirrored, is_heap, is_pinched, points, put_change, skin_of, squares,
                             touched)
from whirlskin.heights import can_rise
from whirlskin.moves import mirrored
from whirlskin.skins import alike, is_skin

SIDES = {way: (u, v, -u, -v) for way, (u, v) in AXES.items()}


def kind_of(cubes):
    """The pair: pinched at an edge, at a POINT alone or not at all; with a hollow or not."""
    pinched = "edge" if has_bare_edge(cubes) else "point" if has_bare_point(cubes) else None
    return pinched, has_hole(cubes)


class Forms(unittest.TestCase):
    def test_is_heap(self):
        for cubes in many_heaps():
            self.assertIs(is_heap(cubes), True)
            self.assertIs(is_heap(list(cubes)), False)
            self.assertIs(is_heap((list(cubes[0]),) + cubes[1:]), False)
            self.assertIs(is_heap(cubes[::-1]), len(cubes) == 1)
            self.assertIs(is_heap(cubes + cubes[-1:]), False)
            self.assertIs(is_heap(heap(cubes + ((10 ** 6, 0, 0),))), False)
        for thing in not_heaps():
            with self.subTest(thing=thing):
                self.assertIs(is_heap(thing), False)

    def test_whatever_the_bounds(self):
        self.assertIs(is_heap(heap(box_of(10, 10, 10))), True)
        self.assertIs(is_heap(less(box_of(1, 1, 900), (0, 0, 450))), False)
        self.assertIs(is_heap(((10 ** 30, -10 ** 30, 0), (10 ** 30 + 1, -10 ** 30, 0))), True)
        self.assertIs(is_heap(((-10 ** 30, 0, 0), (10 ** 30, 0, 0))), False)

    def test_box(self):
        for wide, deep, high in ((1, 1, 1), (1, 1, 30), (30, 1, 1), (2, 3, 5), (5, 3, 2), (3, 3, 3)):
            told = box(wide, deep, high)
            self.assertEqual(told, heap(box_of(wide, deep, high)))
            self.assertIs(is_heap(told), True)
        for bad in (0, -1, -5, -10 ** 6):
            for values in ((bad, 1, 1), (1, bad, 1), (1, 1, bad), (bad, bad, bad), (3, bad, 2)):
                self.assertRaises(Unfit, box, *values)


class Squares(unittest.TestCase):
    def test_ascending_outward_to_where_no_cube_is(self):
        for cubes in many_heaps():
            told = squares(cubes)
            self.assertEqual(told, tuple(sorted((cube, way) for cube in cubes for way in (1, 2, 3, -1, -2, -3)
                                                if moved(cube, way) not in cubes)))
        self.assertEqual([way for _, way in squares(ONE)], [-3, -2, -1, 1, 2, 3])
        self.assertEqual((len(squares(heap(box_of(1, 1, 30)))), len(squares(BEND))), (122, 14))

    def test_of_pinched_ones_too(self):
        for cubes in BY_EDGE + BY_POINT + WITH_HOLLOW:
            self.assertEqual(len(squares(cubes)), len(faces_of(cubes)))


class Skins(unittest.TestCase):
    def test_beside_points(self):
        """Each SIDE is sewn to one with the same two POINTS, which goes on round the CUBES."""
        for cubes in many_heaps():
            if kind_of(cubes) != (None, False):
                continue
            faces, skin = squares(cubes), skin_of(cubes)
            self.assertIs(is_skin(skin), True)
            self.assertEqual(skin, heap_skin(cubes))
            for field, (cube, way) in enumerate(faces):
                for side, out in enumerate(SIDES[way]):
                    other, back = skin[field][side]
                    there = faces[other]
                    self.assertEqual(side_points(cube, way, out), side_points(*there, SIDES[there[1]][back]))
                    if moved(cube, way, out) in cubes:
                        self.assertEqual(there, (moved(cube, way, out), -out))
                    else:
                        self.assertIn(there, ((moved(cube, out), way), (cube, out)))

    def test_sides_are_counter_clockwise_from_outward(self):
        for way, (u, v) in AXES.items():
            cross = [0, 0, 0]
            for axis in range(3):
                one, two = (axis + 1) % 3, (axis + 2) % 3
                cross[axis] = WAYS[u][one] * WAYS[v][two] - WAYS[u][two] * WAYS[v][one]
            self.assertEqual(tuple(cross), WAYS[way])
        # As many of ONE: the SKIN of one CUBE, as it is printed.
        self.assertEqual(skin_of(ONE), CUBE)

    def test_corners_are_one_to_one_with_points(self):
        for cubes in many_heaps():
            if kind_of(cubes) != (None, False):
                continue
            faces, skin, told = squares(cubes), skin_of(cubes), points(cubes)
            rows = corners(skin)
            self.assertEqual(len(told), len(rows))
            self.assertEqual(len(set(told)), len(told))
            self.assertEqual(set(told), set().union(*faces_of(cubes).values()))
            for point, row in zip(told, rows):
                for field, side in row:
                    cube, way = faces[field]
                    ends = [side_points(cube, way, SIDES[way][own]) for own in ((side - 1) % 4, side)]
                    self.assertEqual(ends[0] & ends[1], {point})

    def test_x_and_fields(self):
        for cubes, x in ((ONE, 2), (RING, 0), (HOLLOW[:1], 2), (less(box_of(3, 5, 1), (1, 1, 0), (1, 3, 0)), -2),
                         (LONG_HOLLOW, 2), (less(box_of(3, 3, 3), (1, 1, 0), (1, 1, 1), (1, 1, 2)), 0)):
            self.assertEqual(x_of(skin_of(cubes)), x)
            self.assertIs(can_rise(skin_of(cubes)), True)
        for cubes in PLAIN:
            faces = faces_of(cubes)
            corner_points = set().union(*faces.values())
            self.assertEqual(x_of(skin_of(cubes)), len(corner_points) - len(faces))

    def test_elsewhere_the_same(self):
        for cubes in PLAIN:
            far = shifted(cubes, (-3, 11, -5000))
            self.assertEqual(skin_of(far), skin_of(cubes))
            self.assertEqual(points(far), tuple((x - 3, y + 11, z - 5000) for x, y, z in points(cubes)))


class Pinches(unittest.TestCase):
    def test_beside_points_and_edges(self):
        seen = {}
        for cubes in many_heaps():
            kind = kind_of(cubes)
            seen[kind] = seen.get(kind, 0) + 1
            pinched, hollow = kind
            self.assertIs(is_pinched(cubes), pinched is not None)
            self.assertIs(has_hollow(cubes), hollow)
            for call in (skin_of, points):
                if pinched:
                    self.assertRaises(Pinched, call, cubes)
                elif hollow:
                    self.assertRaises(CanNot, call, cubes)
                else:
                    self.assertIsInstance(call(cubes), tuple)
        self.assertEqual(set(seen), set(itertools.product(("edge", "point", None), (True, False))), seen)

    def test_by_name(self):
        for cubes in BY_EDGE:
            self.assertIs(has_bare_edge(cubes), True)
        for cubes in BY_POINT:
            self.assertEqual((has_bare_edge(cubes), has_bare_point(cubes)), (False, True))
        self.assertEqual([is_pinched(own) for own in (ARCH, HORN, HOLLOW, RING)], [True, True, False, False])
        self.assertEqual([has_hollow(own) for own in (HOLLOW, LEAK_AT_EDGE, LEAK_AT_POINT, LONG_HOLLOW, RING)],
                         [True, True, True, False, False])

    def test_each_cube_taken_out_of_a_box(self):
        for wide, deep, high in ((3, 3, 3), (2, 2, 3), (4, 3, 2)):
            for out in itertools.combinations(box_of(wide, deep, high), 2):
                cubes = less(box_of(wide, deep, high), *out)
                if is_heap(cubes):
                    self.assertIs(is_pinched(cubes), has_bare_edge(cubes) or has_bare_point(cubes))
                    self.assertIs(has_hollow(cubes), has_hole(cubes))

    def test_pinched_ahead_of_hollow(self):
        for cubes in (LEAK_AT_EDGE, LEAK_AT_POINT):
            self.assertIs(has_hollow(cubes), True)
            self.assertRaises(Pinched, skin_of, cubes)
            self.assertRaises(Pinched, points, cubes)
        self.assertRaises(CanNot, skin_of, HOLLOW)
        self.assertRaises(CanNot, points, HOLLOW)


class Touched(unittest.TestCase):
    def near(self, cubes):
        """CUBES not of the HEAP: all that touch it, and some farther on."""
        rows = {tuple(own + step for own, step in zip(cube, more))
                for cube in cubes for more in itertools.product((-1, 0, 1), repeat=3)}
        rows |= {tuple(own + 2 for own in cube) for cube in cubes} | {(x, y, z + 3) for x, y, z in cubes}
        return sorted(rows - set(cubes))

    def test_beside_points_edges_and_sides(self):
        seen = set()
        for cubes in many_heaps()[::2]:
            parts = [set().union(*[part(own) for own in cubes]) for part in (points_of, edges_of, sides_of)]
            rows = self.near(cubes)
            for cube in rows[::len(rows) // 120 + 1]:
                told = tuple(len(part(cube) & of) for part, of in zip((points_of, edges_of, sides_of), parts))
                seen.add(told)
                self.assertEqual(touched(cubes, cube), told)
        self.assertLessEqual({(0, 0, 0), (1, 0, 0), (2, 1, 0), (4, 4, 1), (6, 7, 2)}, seen)
        self.assertEqual(touched(HOLLOW, (1, 1, 1)), (8, 12, 6))
        self.assertEqual(touched(ONE, (10 ** 6, -10 ** 6, 5)), (0, 0, 0))

    def test_put_change_beside_x_of_both(self):
        seen = {}
        for cubes in [less(RING, (1, 0, 0)), RING] + many_heaps()[::2] + WITH_HOLLOW:
            rows = [own for own in self.near(cubes) if any(moved(own, way) in cubes for way in WAYS)]
            some = rows[::len(rows) // 9 + 1] + [(1, 0, 0), (1, 1, 0)]
            for cube in [own for own in some if own in rows]:
                both = heap(cubes + (cube,))
                told = [Pinched if kind_of(own)[0] else CanNot if kind_of(own)[1] else None for own in (cubes, both)]
                if told == [None, None]:
                    more = put_change(cubes, cube)
                    seen[more] = seen.get(more, 0) + 1
                    self.assertEqual(more, x_of(skin_of(both)) - x_of(skin_of(cubes)))
                    corner, edge, side = touched(cubes, cube)
                    self.assertEqual(more, 2 - 2 * (corner - edge + side))
                else:
                    error = told[0] or told[1]
                    seen[error, told[0] is None] = seen.get((error, told[0] is None), 0) + 1
                    self.assertRaises(error, put_change, cubes, cube)
        self.assertLessEqual({-2, 0, 2, (Pinched, True), (Pinched, False), (CanNot, False)}, set(seen), seen)

    def test_pinched_ahead_of_hollow_and_heap_ahead_of_both(self):
        # With it a hollow is shut: CanNot() for heap with cube.
        self.assertRaises(CanNot, put_change, LONG_HOLLOW, (1, 1, 0))
        # heap has a hollow, with cube it is pinched: what heap raises comes first.
        horned = heap(HOLLOW + ((3, 0, 0),))
        self.assertEqual([is_pinched(own) for own in (horned, heap(horned + ((3, 1, 1),)))], [False, True])
        self.assertRaises(CanNot, put_change, horned, (3, 1, 1))
        # heap is pinched, with cube it has a hollow and is not; and both at once.
        self.assertRaises(Pinched, put_change, LEAK_AT_EDGE, (1, 0, 0))
        self.assertEqual(heap(LEAK_AT_EDGE + ((1, 0, 0),)), HOLLOW)
        self.assertRaises(Pinched, put_change, LEAK_AT_POINT, (3, 1, 1))
        # heap is neither, with cube it is pinched and has a hollow.
        self.assertEqual(kind_of(BENT_HOLLOW), (None, False))
        self.assertEqual(kind_of(heap(BENT_HOLLOW + ((1, 1, 0),))), ("edge", True))
        self.assertRaises(Pinched, put_change, BENT_HOLLOW, (1, 1, 0))

    def test_a_cube_of_heap_and_one_that_touches_by_no_side(self):
        for cubes in many_heaps()[::3]:
            for cube in cubes[:3]:
                self.assertRaises(Unfit, touched, cubes, cube)
                self.assertRaises(Unfit, touched, cubes, list(cube))
                self.assertRaises(Unfit, put_change, cubes, cube)
                self.assertRaises(Unfit, put_change, cubes, list(cube))
            rows = [own for own in self.near(cubes) if not any(moved(own, way) in cubes for way in WAYS)]
            for cube in rows[::len(rows) // 20 + 1]:
                self.assertRaises(Unfit, put_change, cubes, cube)
        for cubes in (ARCH, HORN, HOLLOW):
            self.assertRaises(Unfit, put_change, cubes, cubes[-1])
            self.assertRaises(Unfit, put_change, cubes, (99, 0, 0))


class Mirrored(unittest.TestCase):
    def test_its_skin_is_alike_the_skin_mirrored(self):
        for cubes in many_heaps():
            told = heap_mirrored(cubes)
            self.assertEqual(told, heap((y, x, z) for x, y, z in cubes))
            self.assertEqual(heap_mirrored(told), cubes)
            self.assertEqual((is_pinched(told), has_hollow(told)), (is_pinched(cubes), has_hollow(cubes)))
            if kind_of(cubes) == (None, False) and len(cubes) < 12:
                self.assertIs(alike(skin_of(told), mirrored(skin_of(cubes))), True)

    def test_one_that_is_not_alike_to_its_mirror(self):
        screw = heap([(0, 0, 0), (1, 0, 0), (1, 1, 0), (1, 1, 1)])
        self.assertIs(alike(skin_of(heap_mirrored(screw)), skin_of(screw)), False)
        self.assertIs(alike(skin_of(heap_mirrored(screw)), mirrored(skin_of(screw))), True)


class Refusals(unittest.TestCase):
    def test_no_heap_ahead_of_all(self):
        for bad in not_heaps():
            with self.subTest(bad=bad):
                for call in (squares, is_pinched, has_hollow, skin_of, points, heap_mirrored):
                    self.assertRaises(Unfit, call, bad)
                for cube in ((0, 0, 0), (5, 5, 5)):
                    self.assertRaises(Unfit, touched, bad, cube)
                    self.assertRaises(Unfit, put_change, bad, cube)

    def test_lists_for_tuples(self):
        dice = Dice(131)
        for cubes in PLAIN[:6]:
            lists = [list(own) for own in cubes]
            kept = [list(own) for own in cubes]
            cube = moved(dice.pick([own for own in cubes if moved(own, 3) not in cubes]), 3)
            self.assertEqual(skin_of(lists), skin_of(cubes))
            self.assertEqual(put_change(lists, list(cube)), put_change(cubes, cube))
            self.assertEqual(lists, kept)


if __name__ == "__main__":
    unittest.main()
