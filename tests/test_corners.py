"""Promise [6]: corners.py."""

import unittest

from tests.kinds import not_skins
from tests.samples import CONE, CUBE, LOOP, PAIR, PILLOW, TWIN, crossings, many_skins
from whirlskin.corners import between, corner_at, corners, corners_of, lacks, sizes, x_of
from whirlskin.errors import NoField, Unfit
from whirlskin.skins import edges


def heaps_of_pairs(skin):
    """The sets of pairs that come together at one CORNER, by the ends of EDGES that are one."""
    lot = {own: {own} for own in crossings(skin)}

    def join(one, two):
        if lot[one] is not lot[two]:
            lot[one] |= lot[two]
            for own in lot[two]:
                lot[own] = lot[one]

    for field, side in crossings(skin):
        other, back = skin[field][side]
        join((field, side), (other, (back + 1) % 4))
        join((field, (side + 1) % 4), (other, back))
    return {frozenset(own) for own in lot.values()}


class Corners(unittest.TestCase):
    def test_rounds(self):
        for skin in many_skins():
            told = corners(skin)
            self.assertIs(type(told), tuple)
            self.assertEqual(list(told), sorted(told))
            for row in told:
                self.assertEqual(row[0], min(row))
                for (field, side), behind in zip(row, row[1:] + row[:1]):
                    self.assertEqual(skin[field][(side - 1) % 4], behind)

    def test_each_pair_is_of_just_one(self):
        for skin in many_skins():
            told = corners(skin)
            self.assertEqual(sorted(own for row in told for own in row), crossings(skin))
            self.assertEqual(sum(len(row) for row in told), 4 * len(skin))
            self.assertEqual({frozenset(row) for row in told}, heaps_of_pairs(skin))

    def test_corner_at_and_corners_of(self):
        for skin in many_skins():
            told = corners(skin)
            for field in range(len(skin)):
                four = tuple(corner_at(skin, field, side) for side in range(4))
                self.assertEqual(corners_of(skin, field), four)
                for side in range(4):
                    self.assertIn((field, side), told[four[side]])

    def test_between(self):
        for skin in many_skins():
            for field, side in crossings(skin)[:40]:
                ends = (corner_at(skin, field, side), corner_at(skin, field, (side + 1) % 4))
                self.assertEqual(between(skin, (field, side)), ends)
                # The contrary's EDGE is the same one, told from its other end.
                self.assertEqual(between(skin, skin[field][side]), ends[::-1])
        self.assertEqual([between(LOOP, own) for own in crossings(LOOP)], [(0, 0)] * 4)
        self.assertEqual([between(CONE, own) for own in crossings(CONE)], [(0, 1), (1, 0), (0, 2), (2, 0)])

    def test_sums(self):
        for skin in many_skins():
            told = corners(skin)
            self.assertEqual(lacks(skin), tuple(4 - len(row) for row in told))
            self.assertEqual(sizes(skin), (len(skin), len(edges(skin)), len(told)))
            self.assertEqual(sizes(skin)[1], 2 * len(skin))
            x = x_of(skin)
            self.assertEqual(x, len(told) - sizes(skin)[1] + len(skin))
            self.assertEqual(4 * x, sum(lacks(skin)))
            self.assertEqual(x % 2, 0)
            self.assertLessEqual(x, 2)

    def test_known_ones(self):
        self.assertEqual([x_of(own) for own in (CUBE, PILLOW, CONE, LOOP, TWIN, PAIR)], [2, 2, 2, 0, 0, -2])
        self.assertEqual(lacks(CONE), (2, 3, 3))
        self.assertEqual(corners(LOOP), (((0, 0), (0, 1), (0, 2), (0, 3)),))

    def test_all_kinds_are_there(self):
        xs = {x_of(skin) for skin in many_skins()}
        self.assertTrue({2, 0, -2, -4, -36} <= xs)
        self.assertTrue({1, 2, 3, 40} <= {len(skin) for skin in many_skins()})


class Refusals(unittest.TestCase):
    def test_no_such_field(self):
        for skin in (LOOP, PAIR, CUBE):
            for field in (-1, -len(skin), len(skin), len(skin) + 1, 10 ** 6, -10 ** 6):
                for call in (lambda: corner_at(skin, field, 0), lambda: corners_of(skin, field),
                             lambda: between(skin, (field, 0)), lambda: between(skin, [field, 3])):
                    with self.assertRaises(NoField) as caught:
                        call()
                    self.assertEqual(caught.exception.field, field)

    def test_no_skin_ahead_of_all(self):
        for skin in not_skins():
            for function in (corners, lacks, sizes, x_of):
                self.assertRaises(Unfit, function, skin)
            for field in (0, -1, 99):
                self.assertRaises(Unfit, corner_at, skin, field, 0)
                self.assertRaises(Unfit, corners_of, skin, field)
                self.assertRaises(Unfit, between, skin, (field, 0))


if __name__ == "__main__":
    unittest.main()
