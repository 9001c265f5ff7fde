"""Promise [19]: lattice.py."""

import itertools
import unittest

from tests.kinds import not_skins
from tests.samples import BRAID, CUBE, Dice, LOOP, PILLOW, TWIN, all_skins, crossings, step_of, torus
from tests.walks import (difference, free_turns, not_vanes, pairs_of_lots, rooms_by_hand, small_lots, tight_by_hand,
                         turned_on, walked)
from whirlskin.errors import Unfit
from whirlskin.gaps import by_gap, gap, still_fields, tight_fields
from whirlskin.lattice import depth, higher, lower
from whirlskin.plans import can_lead, plan
from whirlskin.vanes import all_turned, are_vanes
from whirlskin.whirls import wish_of


def chosen(numbers, others, choose):
    return tuple(choose(own, other) for own, other in zip(numbers, others))


def keeps_all_steps(skin, vanes, numbers):
    """Whether no STEP, more by the difference of the numbers, comes above 1 or below -1."""
    return all(-1 <= step_of(skin, vanes, (field, side)) + numbers[skin[field][side][0]] - numbers[field] <= 1
               for field, side in crossings(skin))


def rows_that_plans_lead_to(skin, vanes):
    """All rows of numbers, one for each FIELD, by which PLANS have turned it; only if some FIELD is TIGHT."""
    told, row = {(0,) * len(skin)}, [((0,) * len(skin), vanes)]
    for numbers, own in row:
        for field, way in free_turns(skin, own):
            other = numbers[:field] + (numbers[field] + way,) + numbers[field + 1:]
            if other not in told:
                told.add(other)
                row.append((other, turned_on(own, field, way)))
    return told


class LowerAndHigher(unittest.TestCase):
    def test_beside_the_gaps_of_all_vanes(self):
        seen = 0
        for skin, _, lot in small_lots():
            some = lot[::len(lot) // 6 + 1]
            gaps = {(vanes, far): difference(skin, vanes, far) for vanes in some for far in some}
            for vanes, far, other in itertools.product(some[::2], some, some[1::2]):
                pair = lower(skin, vanes, far, other), higher(skin, vanes, far, other)
                for told, choose in zip(pair, (min, max)):
                    self.assertIn(told, lot)
                    numbers = chosen(gaps[vanes, far], gaps[vanes, other], choose)
                    self.assertEqual(difference(skin, vanes, told), numbers)
                seen += len({far, other} | set(pair)) == 4
        self.assertGreater(seen, 50)

    def test_on_larger_skins(self):
        dice, seen = Dice(120), 0
        for skin, vanes, far in pairs_of_lots()[::2]:
            other = walked(dice, skin, far, 20)[1]
            near, beyond = gap(skin, vanes, far), gap(skin, vanes, other)
            for call, choose in ((lower, min), (higher, max)):
                told = call(skin, vanes, far, other)
                self.assertIs(are_vanes(skin, told), True)
                self.assertEqual(wish_of(skin, told), wish_of(skin, vanes))
                self.assertEqual(gap(skin, vanes, told), chosen(near, beyond, choose))
                self.assertEqual(call(skin, vanes, other, far), told)
                seen += told not in (far, other)
        self.assertGreater(seen, 50)

    def test_of_the_same_and_of_all_turned(self):
        for skin, vanes, far in pairs_of_lots()[::15]:
            for call in (lower, higher):
                self.assertEqual(call(skin, vanes, far, far), far)
                self.assertEqual(call(skin, vanes, vanes, vanes), vanes)
            # All turned by 0 to 3: the numbers 0 to 3 at each FIELD.
            for one, two in itertools.product(range(4), repeat=2):
                pair = all_turned(skin, vanes, one), all_turned(skin, vanes, two)
                self.assertEqual(lower(skin, vanes, *pair), pair[two < one])
                self.assertEqual(higher(skin, vanes, *pair), pair[two > one])

    def test_numbers_are_rows_exactly_if_no_step_comes_too_high(self):
        seen = {True: 0, False: 0}
        for skin, _, lot in small_lots(3, 2):
            vanes = lot[0]
            gaps = {difference(skin, vanes, far) for far in lot}
            for numbers in itertools.product(range(-2, 5), repeat=len(skin)):
                good = keeps_all_steps(skin, vanes, numbers)
                seen[good] += 1
                # A GAP has a number from 0 to 3 on FIELD 0; by 4 more at all FIELDS the same VANES come.
                more = numbers[0] // 4 * 4
                self.assertIs(tuple(own - more for own in numbers) in gaps, good)
        self.assertGreater(min(seen.values()), 100)


class Depth(unittest.TestCase):
    def test_beside_all_that_plans_lead_to(self):
        seen = {"tight": 0, "none": 0, "free": 0}
        for skin, _, lot in small_lots():
            for vanes in lot[::len(lot) // 6 + 1]:
                told = depth(skin, vanes)
                if not tight_by_hand(skin, vanes):
                    seen["none"] += 1
                    self.assertIsNone(told)
                    continue
                rows = rows_that_plans_lead_to(skin, vanes)
                seen["free" if len(rows) > 1 else "tight"] += 1
                least, most = tuple(map(min, zip(*rows))), tuple(map(max, zip(*rows)))
                self.assertEqual(told, tuple(zip(least, most)))
                self.assertLessEqual({least, most}, rows)
        self.assertGreater(min(seen.values()), 20, seen)

    def test_on_larger_skins(self):
        wide = 0
        for skin, vanes, _ in pairs_of_lots()[::9]:
            tight, told = tight_by_hand(skin, vanes), depth(skin, vanes)
            if not tight:
                self.assertIsNone(told)
                continue
            there = [rooms_by_hand(skin, vanes, own) for own in tight]
            for field in range(len(skin)):
                back = rooms_by_hand(skin, vanes, field)
                pair = -min(back[own] for own in tight), min(own[field] for own in there)
                self.assertEqual(told[field], pair)
            wide = max([wide] + [most - least for least, most in told])
            self.assertEqual(still_fields(skin, vanes),
                             tuple(field for field, pair in enumerate(told) if pair == (0, 0)))
        self.assertGreater(wide, 3)

    def test_all_least_ones_at_once_and_all_greatest_ones_at_once(self):
        seen = 0
        for skin, vanes, _ in pairs_of_lots()[1::4]:
            told = depth(skin, vanes)
            if told is None:
                continue
            for at in (0, 1):
                numbers = tuple(pair[at] for pair in told)
                far = by_gap(skin, vanes, numbers)
                self.assertIs(can_lead(skin, vanes, far), True)
                turns = [0 for _ in skin]
                for field, way in plan(skin, vanes, far):
                    turns[field] += way
                self.assertEqual(tuple(turns), numbers)
                seen += far != vanes
        self.assertGreater(seen, 10)

    def test_from_elsewhere_the_same_less_the_way_there(self):
        dice = Dice(121)
        for skin, vanes, _ in pairs_of_lots()[::5]:
            way, far = walked(dice, skin, vanes, 20)
            turns = [sum(turn for field, turn in way if field == own) for own in range(len(skin))]
            there, here = depth(skin, far), depth(skin, vanes)
            if here is None:
                self.assertIsNone(there)
            else:
                self.assertEqual(there, tuple((low - own, high - own) for (low, high), own in zip(here, turns)))

    def test_none_and_all_held(self):
        for skin in all_skins(1):
            self.assertIsNone(depth(skin, (3,)))
        self.assertIsNone(depth(torus(1, 8, 0), (0,) * 8))
        self.assertEqual(depth(torus(4, 1, 0), (0, 1, 2, 3)), ((0, 0),) * 4)
        self.assertEqual(depth(BRAID, (1, 2, 0, 3, 1)), ((0, 0),) * 5)
        self.assertEqual(tight_fields(BRAID, (1, 2, 0, 3, 1)), (1, 2, 3, 4))


class Refusals(unittest.TestCase):
    def test_no_skin_ahead_of_all(self):
        for skin in not_skins():
            for vanes in ((0,), None):
                self.assertRaises(Unfit, lower, skin, vanes, vanes, vanes)
                self.assertRaises(Unfit, higher, skin, vanes, vanes, vanes)
                self.assertRaises(Unfit, depth, skin, vanes)

    def test_no_vanes_at_each_place(self):
        for skin, good in ((LOOP, (0,)), (TWIN, (0, 0)), (PILLOW, (0, 1)), (CUBE, (0,) * 6)):
            for bad in not_vanes(skin):
                with self.subTest(skin=skin, bad=bad):
                    self.assertRaises(Unfit, depth, skin, bad)
                    for call in (lower, higher):
                        self.assertRaises(Unfit, call, skin, bad, good, good)
                        self.assertRaises(Unfit, call, skin, good, bad, good)
                        self.assertRaises(Unfit, call, skin, good, good, bad)

    def test_another_wish_at_each_place(self):
        rows = [(PILLOW, (0, 1), (0, 3)), (CUBE, (0,) * 6, (0, 0, 0, 0, 3, 1)), (torus(1, 4, 0), (0,) * 4, (0, 1, 2, 3))]
        for skin, one, two in rows:
            for call in (lower, higher):
                for three in set(itertools.product((one, two), repeat=3)) - {(one,) * 3, (two,) * 3}:
                    self.assertRaises(Unfit, call, skin, *three)
                self.assertEqual(call(skin, two, two, two), two)


if __name__ == "__main__":
    unittest.main()
