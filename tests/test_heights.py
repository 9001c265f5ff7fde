"""Promise [11]: heights.py."""

import itertools
import unittest

from tests.kinds import NOTHINGS, endless, not_skins
from tests.samples import (CONE, CUBE, Dice, LOOP, PAIR, PILLOW, TWIN, corner_rows, crossings, many_skins,
                           rising_skins)
from whirlskin.corners import x_of
from whirlskin.errors import Unfit
from whirlskin.heights import are_heights, can_rise, height_counts, peaks, pits

NOT_HEIGHTS = NOTHINGS + [
    (1, 2, 3, 1), (1, 1, 2, 3), (0, 0, 0, 0), (1, 2, 3), (1, 2, 3, 4, 5), (1, 2, 3, True), (False, 1, 2, 3),
    (True, False, 2, 3), (1, 2, 3, None), (1, 2, 3, "4"), "1234", (1, 2, 3, 4.0), ((1,), (2,), (3,), (4,)),
    ((1, 2, 3, 4),), {1: 1, 2: 2, 3: 3, 4: 4}, {1, 2, 3, 4}, range(4), (10 ** 30, 10 ** 30, 1, 2), (1, 2, 3, ()),
    (1, 2, 3, (1,)), endless(), (-1, 1, -1, 2), (5,) * 5000, tuple(range(5000)),
]


def at_of(skin):
    """The number of the CORNER of each pair, worked out by hand."""
    return {pair: number for number, row in enumerate(corner_rows(skin)) for pair in row}


def fields_round(skin):
    """For each FIELD the four CORNERS of it."""
    at = at_of(skin)
    return [[at[field, side] for side in range(4)] for field in range(len(skin))]


def edges_round(skin):
    """For each EDGE the two CORNERS at which it ends."""
    at = at_of(skin)
    return [(at[field, side], at[field, (side + 1) % 4]) for field, side in crossings(skin)
            if (field, side) < skin[field][side]]


def heights_on(dice, skin):
    """HEIGHTS of unlike kinds: mixed numbers from 0, far apart, below 0, beyond all bounds."""
    many = len(corner_rows(skin))
    mixed = dice.mixed(range(many))
    yield tuple(range(many))
    yield tuple(mixed)
    yield tuple(-own for own in mixed)
    yield tuple((own - 3) * 10 ** 30 + dice.below(1000) for own in dice.mixed(range(many)))
    yield tuple(dice.mixed(range(many)))


def extreme(skin, heights, sign):
    """The CORNERS that are lower (sign 1) or higher (sign -1) than all others of their FIELDS."""
    out = []
    for corner in range(len(heights)):
        others = {own for row in fields_round(skin) if corner in row for own in row} - {corner}
        if all(sign * heights[corner] < sign * heights[own] for own in others):
            out.append(corner)
    return tuple(out)


class CanRise(unittest.TestCase):
    def test_four_unlike_corners(self):
        seen = set()
        for skin in many_skins() + rising_skins():
            told = can_rise(skin)
            self.assertIs(told, all(len(set(row)) == 4 for row in fields_round(skin)))
            if told:
                self.assertTrue(all(one != two for one, two in edges_round(skin)))
            seen.add(told)
        self.assertEqual(seen, {True, False})

    def test_one_field_of_many_is_enough_to_bar(self):
        seen = 0
        for skin in many_skins():
            good = [len(set(row)) == 4 for row in fields_round(skin)]
            if good.count(False) in (1, 2) and len(good) > 4:
                seen += 1
                self.assertIs(can_rise(skin), False)
        self.assertGreater(seen, 0)


class AreHeights(unittest.TestCase):
    def test_heights(self):
        dice = Dice(30)
        for skin in many_skins():
            for heights in heights_on(dice, skin):
                self.assertIs(are_heights(skin, heights), True)
                self.assertIs(are_heights(skin, list(heights)), False)
                self.assertIs(are_heights(skin, heights[:-1]), False)
                self.assertIs(are_heights(skin, heights + (10 ** 40,)), False)
                self.assertIs(are_heights(skin, heights[:-1] + (True,)), False)
                if len(heights) > 1:
                    self.assertIs(are_heights(skin, heights[:-1] + heights[:1]), False)

    def test_things_of_any_kind(self):
        for thing in NOT_HEIGHTS:
            with self.subTest(thing=thing):
                self.assertIs(are_heights(PILLOW, thing), False)
        self.assertIs(are_heights(PILLOW, (1, 0, -1, 2)), True)
        self.assertIs(are_heights(PILLOW, (10 ** 30, -10 ** 30, 0, 10 ** 6 + 1)), True)

    def test_no_skin_whatever_the_thing_is(self):
        for skin in not_skins():
            for thing in ((0,), None, ()):
                self.assertRaises(Unfit, are_heights, skin, thing)


class Counts(unittest.TestCase):
    def test_by_hand(self):
        dice = Dice(31)
        for skin in rising_skins():
            for heights in heights_on(dice, skin):
                counts = []
                for corner, own in enumerate(heights):
                    edges = [ends for ends in edges_round(skin) if corner in ends]
                    fields = [row for row in fields_round(skin) if corner in row]
                    tops = [ends for ends in edges if max(heights[end] for end in ends) == own]
                    over = [row for row in fields if max(heights[end] for end in row) == own]
                    counts.append(1 - len(tops) + len(over))
                self.assertEqual(height_counts(skin, heights), tuple(counts))

    def test_come_to_x_and_are_at_most_1(self):
        dice, seen = Dice(32), set()
        for skin in rising_skins():
            for heights in heights_on(dice, skin):
                counts = height_counts(skin, heights)
                self.assertEqual(sum(counts), x_of(skin))
                self.assertLessEqual(max(counts), 1)
            seen.add(x_of(skin))
        self.assertLessEqual({2, 0, -2}, seen)

    def test_where_they_are_1(self):
        dice, across = Dice(33), 0
        for skin in rising_skins():
            for heights in heights_on(dice, skin):
                counts, high = height_counts(skin, heights), peaks(skin, heights)
                lows = pits(skin, heights)
                for corner, count in enumerate(counts):
                    ends = [one if two == corner else two for one, two in edges_round(skin) if corner in (one, two)]
                    bottom = all(heights[end] > heights[corner] for end in ends)
                    self.assertEqual(count == 1, bottom or corner in high)
                    across += bottom and corner not in lows
                for corner in lows + high:
                    self.assertEqual(counts[corner], 1)
        self.assertGreater(across, 0)

    def test_all_heights_of_the_pillow(self):
        for heights in itertools.permutations((-3, 0, 2, 10 ** 9)):
            counts = height_counts(PILLOW, heights)
            self.assertEqual(sum(counts), 2)
            self.assertEqual(counts[heights.index(10 ** 9)], 1)
            self.assertEqual(counts[heights.index(-3)], 1)

    def test_only_the_order_counts(self):
        dice = Dice(34)
        for skin in rising_skins():
            for heights in heights_on(dice, skin):
                order = sorted(heights)
                ranks = tuple(order.index(own) for own in heights)
                self.assertEqual(height_counts(skin, ranks), height_counts(skin, heights))


class PitsAndPeaks(unittest.TestCase):
    def test_by_hand(self):
        dice = Dice(35)
        for skin in [own for own in many_skins() if len(own) < 15] + rising_skins()[:8]:
            for heights in heights_on(dice, skin):
                self.assertEqual(pits(skin, heights), extreme(skin, heights, 1))
                self.assertEqual(peaks(skin, heights), extreme(skin, heights, -1))

    def test_signs_turned_about(self):
        dice, unlike = Dice(36), 0
        for skin in many_skins() + rising_skins():
            for heights in heights_on(dice, skin):
                turned = tuple(-own for own in heights)
                self.assertEqual(pits(skin, turned), peaks(skin, heights))
                self.assertEqual(peaks(skin, turned), pits(skin, heights))
                if can_rise(skin):
                    unlike += height_counts(skin, turned) != height_counts(skin, heights)
        self.assertGreater(unlike, 0)

    def test_a_corner_alone_is_both(self):
        for skin in (LOOP, PAIR):
            for number in (5, -5, 0):
                self.assertEqual((pits(skin, (number,)), peaks(skin, (number,))), ((0,), (0,)))

    def test_on_skins_that_can_not_rise(self):
        self.assertIs(can_rise(CONE), False)
        self.assertEqual((pits(CONE, (1, 2, 3)), peaks(CONE, (1, 2, 3))), ((0,), (2,)))
        self.assertIs(can_rise(TWIN), False)
        self.assertEqual((pits(TWIN, (2, 1)), peaks(TWIN, (2, 1))), ((1,), (0,)))


class Refusals(unittest.TestCase):
    def test_no_heights(self):
        for heights in NOT_HEIGHTS:
            with self.subTest(heights=heights):
                for call in (height_counts, pits, peaks):
                    self.assertRaises(Unfit, call, PILLOW, heights)

    def test_what_can_not_rise(self):
        for skin in many_skins():
            if not can_rise(skin):
                heights = tuple(range(len(corner_rows(skin))))
                self.assertRaises(Unfit, height_counts, skin, heights)
                self.assertRaises(Unfit, height_counts, skin, None)

    def test_no_skin_ahead_of_all(self):
        for skin in not_skins():
            self.assertRaises(Unfit, can_rise, skin)
            for heights in ((0,), None):
                for call in (height_counts, pits, peaks):
                    self.assertRaises(Unfit, call, skin, heights)

    def test_lists_for_heights(self):
        heights = [5, 0, 3, 7, 2, 6, 1, 4]
        for call in (height_counts, pits, peaks):
            self.assertEqual(call(CUBE, heights), call(CUBE, tuple(heights)))
        self.assertEqual(heights, [5, 0, 3, 7, 2, 6, 1, 4])


if __name__ == "__main__":
    unittest.main()
