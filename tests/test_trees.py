"""Promise [8]: trees.py."""

import unittest

from tests.kinds import not_skins
from tests.samples import CONE, CUBE, LOOP, NAMED, PAIR, TWIN, many_skins, torus
from whirlskin.corners import between, corners, x_of
from whirlskin.errors import NoField, Unfit
from whirlskin.rings import gone_back, is_ring
from whirlskin.skins import edges
from whirlskin.trees import corner_tree, field_tree, handle_rings, handles, loose, way_to


def tree_by_words(skin):
    """The FIELD TREE by its words: FIELDS in the order in which they are come to, SIDES 0 to 3."""
    order, tree = [0], []
    for field in order:
        for side in range(4):
            if skin[field][side][0] not in order:
                order.append(skin[field][side][0])
                tree.append((field, side))
    return tree


def join_by_words(skin, tree):
    """The CORNER TREE by its words: an EDGE is taken if its ends are not joined by those ahead of it."""
    covered = set(tree) | {skin[field][side] for field, side in tree}
    taken, ends = [], []

    def joined(one, two):
        reached, left = {one}, [one]
        while left:
            at = left.pop()
            for pair in ends:
                if at in pair:
                    for other in pair:
                        if other not in reached:
                            reached.add(other)
                            left.append(other)
        return two in reached

    for edge in edges(skin):
        if edge not in covered and not joined(*between(skin, edge)):
            taken.append(edge)
            ends.append(between(skin, edge))
    return taken, [edge for edge in edges(skin) if edge not in covered and edge not in taken]


class Trees(unittest.TestCase):
    def test_by_their_words(self):
        for skin in many_skins():
            tree = tree_by_words(skin)
            joining, others = join_by_words(skin, tree)
            self.assertEqual(field_tree(skin), tree)
            self.assertEqual(corner_tree(skin), joining)
            self.assertEqual(loose(skin), others)

    def test_how_many_they_are(self):
        for skin in many_skins():
            tree = field_tree(skin)
            self.assertEqual(len(tree), len(skin) - 1)
            reached = [skin[field][side][0] for field, side in tree]
            self.assertEqual(sorted(reached), list(range(1, len(skin))))
            self.assertEqual(len(corner_tree(skin)), len(corners(skin)) - 1)
            self.assertEqual(len(loose(skin)), 2 - x_of(skin))
            self.assertEqual(len(loose(skin)), 2 * handles(skin))
            self.assertEqual(len(handle_rings(skin)), len(loose(skin)))

    def test_each_edge_is_of_just_one(self):
        for skin in many_skins():
            fields = [min(own, skin[own[0]][own[1]]) for own in field_tree(skin)]
            self.assertEqual(sorted(fields + corner_tree(skin) + loose(skin)), edges(skin))

    def test_all_corners_hang_together_over_the_corner_tree(self):
        for skin in many_skins():
            lots = {corner: {corner} for corner in range(len(corners(skin)))}
            for edge in corner_tree(skin):
                one, two = between(skin, edge)
                # Each EDGE joins what was not joined: so there is one way alone.
                self.assertIsNot(lots[one], lots[two])
                both = lots[one] | lots[two]
                for corner in both:
                    lots[corner] = both
            self.assertEqual(len(lots[0]), len(corners(skin)))

    def test_ways(self):
        for skin in many_skins():
            tree = field_tree(skin)
            self.assertEqual(way_to(skin, 0), ())
            for field in range(1, len(skin)):
                way = way_to(skin, field)
                self.assertIs(type(way), tuple)
                at = 0
                for crossing in way:
                    self.assertIn(crossing, tree)
                    self.assertEqual(crossing[0], at)
                    at = skin[crossing[0]][crossing[1]][0]
                self.assertEqual(at, field)
                self.assertEqual(len({own[0] for own in way}), len(way))

    def test_handle_rings(self):
        for skin in many_skins():
            rings = handle_rings(skin)
            self.assertIs(type(rings), tuple)
            for edge, ring in zip(loose(skin), rings):
                far = skin[edge[0]][edge[1]][0]
                # The contraries of a way, the last one first, are that way gone back.
                back = tuple(skin[field][side] for field, side in way_to(skin, far)[::-1])
                self.assertEqual(ring, way_to(skin, edge[0]) + (edge,) + back)
                self.assertIs(is_ring(skin, ring), True)
                self.assertEqual(ring[0][0], 0)
                self.assertEqual(gone_back(skin, gone_back(skin, ring)), ring)

    def test_handles(self):
        self.assertEqual([handles(own) for own in (CUBE, CONE, LOOP, TWIN, PAIR)], [0, 0, 1, 1, 2])
        self.assertEqual(max(handles(own) for own in many_skins()), 19)
        for skin in NAMED:
            self.assertEqual(handles(skin), (2 - x_of(skin)) // 2)

    def test_a_long_row_of_fields(self):
        skin = torus(2500, 1, 0)
        self.assertEqual(len(way_to(skin, 1250)), 1250)
        self.assertEqual(handles(skin), 1)


class Refusals(unittest.TestCase):
    def test_no_such_field(self):
        for skin in (LOOP, TWIN, CUBE):
            for field in (-1, -len(skin), len(skin), len(skin) + 1, 10 ** 6, -10 ** 6):
                with self.assertRaises(NoField) as caught:
                    way_to(skin, field)
                self.assertEqual(caught.exception.field, field)

    def test_no_skin_ahead_of_all(self):
        for skin in not_skins():
            for function in (field_tree, corner_tree, loose, handle_rings, handles):
                self.assertRaises(Unfit, function, skin)
            for field in (0, -1, 99):
                self.assertRaises(Unfit, way_to, skin, field)


if __name__ == "__main__":
    unittest.main()
