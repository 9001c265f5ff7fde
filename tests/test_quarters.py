"""Promise [16]: quarters.py."""

import itertools
import unittest

from tests.kinds import NOTHINGS, endless, not_skins
from tests.samples import (CUBE, Dice, LOOP, PAIR, PILLOW, TWIN, WHEEL, crossings, every_vanes, heap_skins,
                           skins_with_vanes, small_skins, step_of, vanes_on)
from whirlskin.errors import Broken, CanNot, NoField, Unfit
from whirlskin.quarters import barring, behind, is_quarter, quarters, turned
from whirlskin.vanes import are_vanes
from whirlskin.whirls import wish_of

NOT_VANES = NOTHINGS + [(0, 2), (2, 0), (0,), (0, 1, 0), (0, 4), (0, -1), (0, True), (0, None), "01", ((0, 1),),
                        endless()]
FAR_FIELDS = (-1, -2, 2, 3, 10 ** 6, -10 ** 6)
NO_WAYS = (0, 2, -2, 3, -3, 4, 10 ** 6, -10 ** 6)


def skins_and_vanes():
    dice = Dice(90)
    rows = skins_with_vanes()
    return rows + [(skin, vanes_on(skin, dice)) for skin in heap_skins()]


def sides_behind(vanes, field, way):
    return vanes[:field] + ((vanes[field] + way) % 4,) + vanes[field + 1:]


def stand_fast(skin, sides):
    return all(step_of(skin, sides, own) != 2 for own in crossings(skin))


class Quarters(unittest.TestCase):
    def test_by_the_vanes_that_come(self):
        seen = {True: 0, False: 0}
        for skin, vanes in skins_and_vanes():
            pairs = []
            for field in range(len(skin)):
                for way in (-1, 1):
                    sides = sides_behind(vanes, field, way)
                    good = all(step_of(skin, sides, (field, side)) != 2 for side in range(4))
                    seen[good] += 1
                    self.assertIs(is_quarter(skin, vanes, (field, way)), good)
                    if good:
                        pairs.append((field, way))
                    if field < 6:
                        self.assertIs(are_vanes(skin, sides), good)
            self.assertEqual(quarters(skin, vanes), tuple(pairs))
        self.assertGreater(min(seen.values()), 500)

    def test_all_vanes_of_small_skins(self):
        for skin in small_skins(4):
            had = every_vanes(skin)
            for vanes in had[::len(had) // 30 + 1]:
                pairs = [(field, way) for field in range(len(skin)) for way in (-1, 1)]
                good = [own for own in pairs if sides_behind(vanes, *own) in had]
                self.assertEqual(quarters(skin, vanes), tuple(good))
                for own in pairs:
                    if own in good:
                        self.assertEqual(turned(skin, vanes, *own), sides_behind(vanes, *own))
                    else:
                        self.assertRaises(CanNot, turned, skin, vanes, *own)

    def test_the_steps_that_change(self):
        for skin, vanes in skins_and_vanes():
            for field, way in quarters(skin, vanes)[:6]:
                told = turned(skin, vanes, field, way)
                for crossing in crossings(skin):
                    other = skin[crossing[0]][crossing[1]][0]
                    less = way if crossing[0] == field else 0
                    less -= way if other == field else 0
                    before, after = step_of(skin, vanes, crossing), step_of(skin, told, crossing)
                    self.assertEqual(after, before - less)

    def test_the_wish_stays_and_the_way_back(self):
        for skin, vanes in skins_and_vanes():
            for field, way in quarters(skin, vanes)[:4]:
                told = turned(skin, vanes, field, way)
                self.assertEqual(wish_of(skin, told), wish_of(skin, vanes))
                self.assertIs(is_quarter(skin, told, (field, -way)), True)
                self.assertEqual(turned(skin, told, field, -way), vanes)

    def test_a_field_sewn_to_itself_throughout_turns_as_one_likes(self):
        for skin in small_skins(1):
            for side in range(4):
                self.assertEqual(quarters(skin, (side,)), ((0, -1), (0, 1)))
                self.assertEqual(turned(skin, (side,), 0, -1), ((side - 1) % 4,))
                self.assertEqual(barring(skin, (side,), 0, 1), ())

    def test_things_of_any_kind(self):
        pairs = [(0, 1), (0, -1), (1, 1), (1, -1)]
        self.assertEqual(quarters(TWIN, (0, 0)), tuple(sorted(pairs)))
        bad = [(0, 0), (0, 2), (0, -2), (0, 3), (0, 5), (0, -3), (2, 1), (-1, 1), (-2, -1), (0, True), (True, 1),
               (False, 1), (True, True), (0, "1"), ("0", 1), (0, None), (None, 1), (0,), (1,), (0, 1, 1), (0, 1, 0),
               ((0, 1),), ((0,), 1), (0, (1,)), [0, 1], [0, -1], "01", (0, 1.0), (0.0, 1), {0: 1, 1: 1}, {0, 1}, range(2), endless(),
               (10 ** 30, 1), (0, 10 ** 30), (0, 1) * 200, ()]
        for thing in NOTHINGS + bad:
            with self.subTest(thing=thing):
                self.assertIs(is_quarter(TWIN, (0, 0), thing), False)


class Barring(unittest.TestCase):
    def test_by_hand(self):
        seen = set()
        for skin, vanes in skins_and_vanes():
            for field in range(min(len(skin), 12)):
                for way in (-1, 1):
                    sides, others = sides_behind(vanes, field, way), set()
                    for side in range(4):
                        other = skin[field][side][0]
                        if other != field and abs(step_of(skin, vanes, (field, side)) - way) == 2:
                            others.add(other)
                            self.assertEqual(step_of(skin, sides, (field, side)), 2)
                    told = barring(skin, vanes, field, way)
                    seen.add(len(told))
                    self.assertEqual(told, tuple(sorted(others)))
                    self.assertIs(is_quarter(skin, vanes, (field, way)), told == ())
        self.assertLessEqual({0, 1, 2, 3}, seen)

    def test_one_other_over_several_edges_is_told_once(self):
        self.assertEqual(barring(PILLOW, (0, 1), 0, 1), (1,))
        self.assertEqual(barring(PILLOW, (0, 1), 0, -1), (1,))


class Behind(unittest.TestCase):
    def walk(self, dice, skin, vanes, long):
        """A PLAN at haphazard and the VANES that come, worked out by hand."""
        plan = []
        for _ in range(long):
            pairs = [(field, way) for field in range(len(skin)) for way in (-1, 1)
                     if all(step_of(skin, sides_behind(vanes, field, way), (field, side)) != 2 for side in range(4))]
            if not pairs:
                break
            plan.append(dice.pick(pairs))
            vanes = sides_behind(vanes, *plan[-1])
        return tuple(plan), vanes

    def test_plans(self):
        dice, longest = Dice(91), 0
        for skin, vanes in skins_and_vanes()[::2]:
            plan, told = self.walk(dice, skin, vanes, 12)
            longest = max(longest, len(plan))
            self.assertEqual(behind(skin, vanes, plan), told)
            self.assertEqual(behind(skin, list(vanes), [list(own) for own in plan]), told)
            self.assertIs(are_vanes(skin, told), True)
            self.assertEqual(wish_of(skin, told), wish_of(skin, vanes))
            back = tuple((field, -way) for field, way in reversed(plan))
            self.assertEqual(behind(skin, told, back), vanes)
            self.assertEqual(behind(skin, vanes, ()), vanes)
            self.assertEqual(behind(skin, list(vanes), []), vanes)
        self.assertEqual(longest, 12)

    def test_long_plans(self):
        dice = Dice(92)
        plan, told = self.walk(dice, PAIR, (0, 0, 0), 300)
        self.assertEqual(len(plan), 300)
        self.assertEqual(behind(PAIR, (0, 0, 0), plan), told)
        self.assertEqual(behind(LOOP, (1,), ((0, 1),) * 3001), (2,))

    def test_broken_at_the_first_that_is_no_quarter_in_its_turn(self):
        dice, seen = Dice(93), 0
        for skin, vanes in skins_and_vanes()[::2]:
            plan, told = self.walk(dice, skin, vanes, 6)
            bad = [(field, way) for field in range(len(skin)) for way in (-1, 1)
                   if not stand_fast(skin, sides_behind(told, field, way))][:3]
            seen += len(bad)
            for pair in bad + [(len(skin), 1), (-1, 1), (0, 0), (0, 2), (0, -3), (10 ** 6, 10 ** 6)]:
                for more in ((), ((0, 0),), ((0, 1), (99, 1))):
                    with self.assertRaises(Broken) as caught:
                        behind(skin, vanes, plan + (pair,) + more)
                    self.assertEqual(caught.exception.place, len(plan))
        self.assertGreater(seen, 100)

    def test_broken_ahead_of_what_comes_behind(self):
        for plan, place in ((((0, 1), (0, 1)), 1), (((5, 1),), 0), (((0, 2),), 0),
                            (((0, 1), (1, 1), (1, 1), (1, 1)), 3), ([[0, 1], [0, -1], [0, -1], [0, -1]], 3), (((-1, 1), (0, 1)), 0), (((0, 1), (-2, 1)), 1)):
            with self.assertRaises(Broken) as caught:
                behind(TWIN, (0, 0), plan)
            self.assertEqual(caught.exception.place, place)


class Refusals(unittest.TestCase):
    def test_no_vanes_ahead_of_all_else(self):
        for vanes in NOT_VANES:
            with self.subTest(vanes=vanes):
                self.assertRaises(Unfit, quarters, TWIN, vanes)
                self.assertRaises(Unfit, is_quarter, TWIN, vanes, None)
                self.assertRaises(Unfit, behind, TWIN, vanes, ((9, 9),))
                for field, way in ((0, 1), (9, 1), (0, 5), (-1, 0)):
                    self.assertRaises(Unfit, barring, TWIN, vanes, field, way)
                    self.assertRaises(Unfit, turned, TWIN, vanes, field, way)

    def test_no_field_ahead_of_no_way(self):
        for field, way, call in itertools.product(FAR_FIELDS, (1, -1) + NO_WAYS, (barring, turned)):
            with self.assertRaises(NoField) as caught:
                call(TWIN, (0, 0), field, way)
            self.assertEqual(caught.exception.field, field)

    def test_no_way_ahead_of_can_not(self):
        for way in NO_WAYS:
            for skin, vanes in ((TWIN, (0, 0)), (PILLOW, (0, 1)), (CUBE, (0,) * 6), (LOOP, (0,)), (WHEEL, (0, 2))):
                for field in range(len(skin)):
                    self.assertRaises(Unfit, barring, skin, vanes, field, way)
                    self.assertRaises(Unfit, turned, skin, vanes, field, way)

    def test_can_not(self):
        for field, way in itertools.product((0, 1), (1, -1)):
            self.assertRaises(CanNot, turned, PILLOW, (0, 1), field, way)
        self.assertRaises(CanNot, turned, PAIR, [0, 0, 0], 1, 1)

    def test_no_skin_ahead_of_all(self):
        for skin in not_skins():
            for vanes in ((0,), None):
                self.assertRaises(Unfit, quarters, skin, vanes)
                self.assertRaises(Unfit, is_quarter, skin, vanes, None)
                self.assertRaises(Unfit, behind, skin, vanes, ((9, 9),))
                self.assertRaises(Unfit, barring, skin, vanes, 9, 9)
                self.assertRaises(Unfit, turned, skin, vanes, 9, 9)


if __name__ == "__main__":
    unittest.main()
