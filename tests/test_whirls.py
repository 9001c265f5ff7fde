"""Promise [10]: whirls.py."""

import itertools
import unittest

from tests.kinds import NOTHINGS, endless, not_skins
from tests.samples import (CONE, CUBE, LOOP, NAMED, PAIR, PILLOW, TWIN, all_skins, corner_rows, crossings, many_skins,
                           skins_with_vanes, step_of)
from whirlskin.corners import lacks, x_of
from whirlskin.errors import NoCorner, Unfit
from whirlskin.trees import handle_rings
from whirlskin.vanes import all_turned, are_vanes, turning, with_vane
from whirlskin.whirls import least_whirl, whirl_at, whirled, whirls, wish_of

NOT_VANES = NOTHINGS + [(0, 2), (2, 0), (0,), (0, 1, 0), (0, 4), (0, -1), (0, True), (0, None), "01", ((0, 1),),
                        {0: 0, 1: 1}, range(2), endless()]


def whirl_by_hand(skin, vanes, row):
    """The WHIRL of the CORNER with this ROUND; four times it has to be a multiple of four."""
    total = 4 - len(row) + sum(step_of(skin, vanes, (field, (side - 1) % 4)) for field, side in row)
    assert total % 4 == 0, (skin, vanes, row)
    return total // 4


class Whirls(unittest.TestCase):
    def test_by_hand(self):
        for skin, vanes in skins_with_vanes():
            told = whirls(skin, vanes)
            self.assertEqual(told, tuple(whirl_by_hand(skin, vanes, row) for row in corner_rows(skin)))
            self.assertEqual([whirl_at(skin, vanes, own) for own in range(len(told))], list(told))

    def test_at_most_and_at_least(self):
        met = set()
        for skin, vanes in skins_with_vanes():
            for corner, (whirl, lack) in enumerate(zip(whirls(skin, vanes), lacks(skin))):
                k = 4 - lack
                self.assertLessEqual(whirl, 1)
                self.assertGreaterEqual(2 * whirl, 2 - k)
                self.assertGreaterEqual(whirl, least_whirl(skin, corner))
                met.add(whirl - least_whirl(skin, corner))
        self.assertLessEqual({0, 1, 2}, met)

    def test_all_come_to_x(self):
        seen = set()
        for skin, vanes in skins_with_vanes():
            self.assertEqual(sum(whirls(skin, vanes)), x_of(skin))
            if not any(whirls(skin, vanes)):
                self.assertEqual(x_of(skin), 0)
            seen.add(x_of(skin))
        self.assertLessEqual({2, 0, -2}, seen)

    def test_all_vanes_of_small_skins(self):
        for skin in (LOOP, CONE, TWIN, PILLOW, PAIR) + tuple(all_skins(2)[::9]):
            for sides in itertools.product(range(4), repeat=len(skin)):
                if are_vanes(skin, sides):
                    told = tuple(whirl_by_hand(skin, sides, row) for row in corner_rows(skin))
                    self.assertEqual(whirls(skin, sides), told)
                    self.assertEqual(sum(told), x_of(skin))

    def test_least_whirl(self):
        seen = set()
        for skin in many_skins():
            for corner, row in enumerate(corner_rows(skin)):
                least, k = least_whirl(skin, corner), len(row)
                # The least whole number not below 1 - k / 2, told without parts of numbers.
                self.assertGreaterEqual(2 * least, 2 - k)
                self.assertLess(2 * (least - 1), 2 - k)
                seen.add(k % 4)
        self.assertEqual(seen, {0, 1, 2, 3})

    def test_whirled(self):
        for skin, vanes in skins_with_vanes():
            told = whirls(skin, vanes)
            for number in range(-4, 4):
                row = tuple(own for own, whirl in enumerate(told) if whirl == number)
                self.assertEqual(whirled(skin, vanes, number), row)
        for number in (2, 5, -7, 10 ** 6, -10 ** 6):
            self.assertEqual(whirled(CUBE, (0,) * 6, number), ())


class WishOf(unittest.TestCase):
    def test_whirls_and_turnings(self):
        for skin, vanes in skins_with_vanes():
            turnings = tuple(turning(skin, vanes, ring) for ring in handle_rings(skin))
            self.assertEqual(wish_of(skin, vanes), (whirls(skin, vanes), turnings))

    def test_without_handles(self):
        seen = 0
        for skin, vanes in skins_with_vanes():
            if x_of(skin) == 2:
                seen += 1
                self.assertEqual(wish_of(skin, vanes), (whirls(skin, vanes), ()))
        self.assertGreater(seen, 20)

    def test_all_turned_it_stays(self):
        for skin, vanes in skins_with_vanes():
            for number in (1, 2, 3, -5):
                self.assertEqual(wish_of(skin, all_turned(skin, vanes, number)), wish_of(skin, vanes))

    def test_one_vane_turned_by_a_quarter_it_stays(self):
        seen = 0
        for skin, vanes in skins_with_vanes():
            for field in range(min(len(skin), 8)):
                for way in (1, -1):
                    side = (vanes[field] + way) % 4
                    if are_vanes(skin, vanes[:field] + (side,) + vanes[field + 1:]):
                        seen += 1
                        self.assertEqual(wish_of(skin, with_vane(skin, vanes, field, side)), wish_of(skin, vanes))
        self.assertGreater(seen, 100)


class Refusals(unittest.TestCase):
    def test_no_vanes(self):
        for vanes in NOT_VANES:
            with self.subTest(vanes=vanes):
                self.assertRaises(Unfit, whirls, TWIN, vanes)
                self.assertRaises(Unfit, wish_of, TWIN, vanes)
                self.assertRaises(Unfit, whirled, TWIN, vanes, 0)
                for corner in (0, -1, 99):
                    self.assertRaises(Unfit, whirl_at, TWIN, vanes, corner)

    def test_sides_that_are_no_vanes(self):
        for skin in NAMED[:7] + tuple(all_skins(2)[::3]):
            for sides in itertools.product(range(4), repeat=len(skin)):
                if any(step_of(skin, sides, own) == 2 for own in crossings(skin)):
                    self.assertRaises(Unfit, whirls, skin, sides)
                    self.assertRaises(Unfit, wish_of, skin, sides)
                    self.assertRaises(Unfit, whirled, skin, sides, 0)
                    self.assertRaises(Unfit, whirl_at, skin, sides, -1)

    def test_no_corner(self):
        for skin, vanes in ((LOOP, (2,)), (PILLOW, (0, 1)), (PAIR, (0, 0, 0)), (CUBE, (0,) * 6)):
            many = len(lacks(skin))
            for corner in (-1, -many, many, many + 1, 10 ** 6, -10 ** 6):
                for call in (lambda: whirl_at(skin, vanes, corner), lambda: least_whirl(skin, corner)):
                    with self.assertRaises(NoCorner) as caught:
                        call()
                    self.assertEqual(caught.exception.corner, corner)
            self.assertEqual(whirl_at(skin, vanes, many - 1), whirls(skin, vanes)[-1])

    def test_no_skin_ahead_of_all(self):
        for skin in not_skins():
            for vanes in ((0,), None):
                self.assertRaises(Unfit, whirls, skin, vanes)
                self.assertRaises(Unfit, wish_of, skin, vanes)
                self.assertRaises(Unfit, whirled, skin, vanes, 0)
                self.assertRaises(Unfit, whirl_at, skin, vanes, 99)
            self.assertRaises(Unfit, least_whirl, skin, 99)
            self.assertRaises(Unfit, least_whirl, skin, 0)


if __name__ == "__main__":
    unittest.main()
