"""Promise [18]: plans.py."""

import itertools
import unittest

from tests.kinds import NOTHINGS, endless, not_skins
from tests.samples import CUBE, Dice, LOOP, PILLOW, TWIN, all_skins, skins_with_vanes, torus
from tests.walks import distances, gone_by, not_vanes, pairs_of_lots, rooms_by_hand, small_lots, turned_on, walked
from whirlskin.errors import CanNot, Unfit
from whirlskin.gaps import by_gap, gap, tight_fields
from whirlskin.lattice import depth
from whirlskin.moves import vanes_renamed
from whirlskin.plans import can_lead, fewest, is_plan, nearest, plan, shift, stuck
from whirlskin.quarters import behind
from whirlskin.skins import renamed
from whirlskin.vanes import all_turned
from whirlskin.whirls import wish_of

# Two tight rings, and FIELDS between them that leave them room for four quarters.
FAR_APART = ((((3, 2), (4, 0), (1, 3), (8, 3)), ((1, 2), (5, 0), (1, 0), (0, 2)), ((4, 2), (5, 2), (6, 2), (7, 2)),
              ((3, 1), (3, 0), (0, 0), (8, 0)), ((0, 1), (5, 3), (2, 0), (9, 0)), ((1, 1), (6, 3), (2, 1), (4, 1)),
              ((7, 0), (7, 3), (2, 2), (5, 1)), ((6, 0), (9, 1), (2, 3), (6, 1)), ((3, 3), (8, 2), (8, 1), (0, 3)),
              ((4, 3), (7, 1), (10, 0), (10, 1)), ((9, 2), (9, 3), (10, 3), (10, 2))),
             (3, 1, 2, 0, 3, 2, 1, 0, 0, 2, 2), (0, 3, 8), (6, 7))
CALLS = (can_lead, shift, fewest, nearest, plan, stuck)


def sums_by_k(numbers, spread=60):
    """For each k from afar to afar, what the numbers less 4 k, without signs, come to."""
    return {k: sum(abs(own - 4 * k) for own in numbers) for k in range(-spread, spread + 1)}


def barring_sets(tight, numbers):
    """All sets of one or two TIGHT FIELDS of which stuck tells the least."""
    rows = [(own,) for own in tight if numbers[own] % 4]
    return rows + [own for own in itertools.combinations(tight, 2) if numbers[own[0]] != numbers[own[1]]]


class Small(unittest.TestCase):
    """Beside all VANES that QUARTERS lead to, one by one."""

    def test_a_plan_exactly_if_some_k_suits_and_of_just_so_many_quarters(self):
        seen = {True: 0, False: 0}
        for skin, had, lot in small_lots():
            some = lot[::len(lot) // 24 + 1]
            for vanes in some[::len(some) // 3 + 1]:
                far_off = distances(had, vanes)
                tight = tight_fields(skin, vanes)
                for far in some + sorted(far_off)[::len(far_off) // 12 + 1]:
                    numbers = gap(skin, vanes, far)
                    suit = {k: own for k, own in sums_by_k(numbers).items()
                            if all(numbers[field] == 4 * k for field in tight)}
                    seen[bool(suit)] += 1
                    self.assertIs(bool(suit), far in far_off)
                    if suit:
                        self.look_at_led(skin, vanes, far, far_off[far], suit, tight)
                    else:
                        self.look_at_stuck(skin, vanes, far, tight, numbers)
        self.assertGreater(min(seen.values()), 500)

    def look_at_led(self, skin, vanes, far, quarters, suit, tight):
        self.assertIs(can_lead(skin, vanes, far), True)
        self.assertEqual(quarters, min(suit.values()))
        self.assertEqual(fewest(skin, vanes, far), quarters)
        self.assertEqual(nearest(skin, vanes, far), min(k for k in suit if suit[k] == quarters))
        self.assertEqual(shift(skin, vanes, far), list(suit)[0] if tight else None)
        self.assertIs(len(suit) == 1, bool(tight))
        told = plan(skin, vanes, far)
        self.assertEqual((len(told), gone_by(skin, vanes, told)), (quarters, far))
        self.assertIs(is_plan(skin, vanes, far, told), True)
        self.assertEqual({field for field, _ in told} & set(tight), set())
        self.assertRaises(CanNot, stuck, skin, vanes, far)

    def look_at_stuck(self, skin, vanes, far, tight, numbers):
        self.assertIs(can_lead(skin, vanes, far), False)
        for call in (shift, fewest, nearest, plan):
            self.assertRaises(CanNot, call, skin, vanes, far)
        self.assertEqual(stuck(skin, vanes, far), min(barring_sets(tight, numbers)))
        self.assertIs(is_plan(skin, vanes, far, ()), False)

    def test_tight_fields_are_the_same_and_never_turned(self):
        for skin, had, lot in small_lots():
            told = {tight_fields(skin, vanes) for vanes in lot[::len(lot) // 20 + 1]}
            self.assertEqual(len(told), 1)
            tight = told.pop()
            for vanes in lot[:5]:
                for other in distances(had, vanes):
                    self.assertEqual([other[own] for own in tight], [vanes[own] for own in tight])

    def test_one_field(self):
        for skin in all_skins(1):
            for one, two in itertools.product(range(4), repeat=2):
                more = (two - one) % 4
                self.assertEqual(fewest(skin, (one,), (two,)), min(more, 4 - more))
                # With a GAP of 2 both k 0 and k 1 come to 2: the least is told.
                self.assertEqual(nearest(skin, (one,), (two,)), int(more == 3))
                self.assertIsNone(shift(skin, (one,), (two,)))
                self.assertRaises(CanNot, stuck, skin, (one,), (two,))

    def test_both_kinds_of_stuck_sets(self):
        seen = {1: 0, 2: 0}
        for skin, had, lot in small_lots():
            for far in lot[::len(lot) // 30 + 1]:
                if not can_lead(skin, lot[0], far):
                    seen[len(stuck(skin, lot[0], far))] += 1
        self.assertGreater(min(seen.values()), 0, seen)

    def test_unlike_multiples_of_four_lead_nowhere(self):
        skin, vanes, tied, held = FAR_APART
        self.assertEqual(tight_fields(skin, vanes), tuple(sorted(tied + held)))
        # As far as can be from the one tight ring, and at the other one just four on.
        there, back = rooms_by_hand(skin, vanes, tied[0]), rooms_by_hand(skin, vanes, held[0])
        numbers = tuple(min(near, 4 + far) for near, far in zip(there, back))
        self.assertEqual({numbers[own] for own in tied} | {numbers[own] + 6 for own in held}, {0, 10})
        far = by_gap(skin, vanes, numbers)
        for one, two in ((vanes, far), (far, vanes)):
            self.assertEqual([can_lead(skin, one, two), stuck(skin, one, two)], [False, (tied[0], held[0])])
            for call in (shift, fewest, nearest, plan):
                self.assertRaises(CanNot, call, skin, one, two)
        self.assertEqual(shift(skin, far, far), 0)


class Larger(unittest.TestCase):
    def test_what_is_told_is_gone_quarter_by_quarter(self):
        seen, longest = {True: 0, False: 0}, 0
        for skin, vanes, far in pairs_of_lots():
            tight, numbers = tight_fields(skin, vanes), gap(skin, vanes, far)
            suit = {k: own for k, own in sums_by_k(numbers).items() if all(numbers[field] == 4 * k for field in tight)}
            seen[bool(suit)] += 1
            self.assertIs(can_lead(skin, vanes, far), bool(suit))
            if suit:
                told = plan(skin, vanes, far)
                longest = max(longest, len(told))
                self.assertEqual(behind(skin, vanes, told), far)
                self.assertEqual(gone_by(skin, vanes, told), far)
                self.assertEqual(len(told), min(suit.values()))
                self.assertEqual(fewest(skin, vanes, far), len(told))
                self.assertEqual(nearest(skin, vanes, far), min(k for k in suit if suit[k] == len(told)))
                self.assertEqual(shift(skin, vanes, far), list(suit)[0] if tight else None)
                self.assertIs(is_plan(skin, vanes, far, told), True)
                self.assertRaises(CanNot, stuck, skin, vanes, far)
            else:
                self.assertEqual(stuck(skin, vanes, far), min(barring_sets(tight, numbers)))
                for call in (shift, fewest, nearest, plan):
                    self.assertRaises(CanNot, call, skin, vanes, far)
        self.assertGreater(min(seen.values()), 30)
        self.assertGreater(longest, 30)

    def test_no_walk_is_shorter_than_told(self):
        dice = Dice(110)
        for skin, _, vanes in [own for own in pairs_of_lots() if len(own[0]) > 6][::3]:
            told, far = walked(dice, skin, vanes, 25)
            self.assertIs(can_lead(skin, vanes, far), True)
            self.assertLessEqual(fewest(skin, vanes, far), len(told))
            self.assertEqual((len(told) - fewest(skin, vanes, far)) % 2, 0)
            self.assertIs(is_plan(skin, vanes, far, told), True)
            self.assertEqual(fewest(skin, far, vanes), fewest(skin, vanes, far))

    def test_all_turned_alike(self):
        seen = {True: 0, False: 0}
        for skin, vanes, _ in pairs_of_lots()[::4]:
            tight = tight_fields(skin, vanes)
            for turn in (1, 2, 3):
                far = all_turned(skin, vanes, turn)
                seen[bool(tight)] += 1
                self.assertIs(can_lead(skin, vanes, far), not tight)
                if tight:
                    self.assertEqual(stuck(skin, vanes, far), tight[:1])
                else:
                    self.assertEqual(fewest(skin, vanes, far), min(turn, 4 - turn) * len(skin))
                    self.assertIsNone(shift(skin, vanes, far))
            self.assertEqual((plan(skin, vanes, vanes), fewest(skin, vanes, vanes)), ((), 0))
            self.assertEqual((nearest(skin, vanes, vanes), shift(skin, vanes, vanes)), (0, 0 if tight else None))
        self.assertGreater(min(seen.values()), 20)

    def test_far_ramps_on_a_belt(self):
        # Twenty up, twenty down, against the contrary: the numbers run from 0 to 40.
        skin = torus(1, 40, 0)
        up = tuple(min(own, 40 - own) % 4 for own in range(40))
        down = tuple(-min(own, 40 - own) % 4 for own in range(40))
        numbers = gap(skin, down, up)
        self.assertEqual(max(numbers) - min(numbers), 40)
        told = plan(skin, down, up)
        self.assertEqual(gone_by(skin, down, told), up)
        self.assertEqual(len(told), min(sums_by_k(numbers).values()))
        self.assertEqual(fewest(skin, down, up), len(told))
        self.assertGreater(nearest(skin, down, up), 3)

    def test_a_k_other_than_none_with_tight_fields(self):
        # Once round by four quarters at each FIELD that turns, while those held have come on by 4 k.
        seen = set()
        for skin, vanes, far in pairs_of_lots():
            if tight_fields(skin, vanes) and can_lead(skin, vanes, far):
                told = shift(skin, vanes, far)
                seen.add(told)
                self.assertEqual({gap(skin, vanes, far)[own] for own in tight_fields(skin, vanes)}, {4 * told})
        self.assertGreater(len(seen), 1, seen)


    def test_k_by_how_far_field_0_is_turned(self):
        # The numbers of a PLAN, 0 where FIELDS are TIGHT, less those of the GAP are 4 k: so each k comes up.
        seen = set()
        for skin, vanes in skins_with_vanes():
            told = depth(skin, vanes)
            for field, (least, most) in enumerate(told or ()):
                if -4 < least and most < 4:
                    continue
                order, turns = (field,) + tuple(own for own in range(len(skin)) if own != field), (0,) * len(skin)
                first, near = renamed(skin, order, turns), vanes_renamed(skin, vanes, order, turns)
                for at in (0, 1):
                    numbers = tuple(depth(first, near)[own][at] for own in range(len(skin)))
                    far = by_gap(first, near, numbers)
                    k = -(numbers[0] // 4)
                    seen.add(k)
                    self.assertEqual((shift(first, near, far), nearest(first, near, far)), (k, k))
                    self.assertEqual(fewest(first, near, far), sum(abs(own) for own in numbers))
                    self.assertEqual(behind(first, near, plan(first, near, far)), far)
        self.assertLessEqual({-1, 0, 1}, seen)


class IsPlan(unittest.TestCase):
    def test_plans_with_detours(self):
        dice, seen = Dice(111), 0
        for skin, vanes, _ in pairs_of_lots()[::3]:
            told, far = walked(dice, skin, vanes, 15)
            self.assertIs(is_plan(skin, vanes, far, told), True)
            back = tuple((field, -way) for field, way in told[::-1])
            self.assertIs(is_plan(skin, vanes, vanes, told + back), True)
            self.assertIs(is_plan(skin, vanes, far, told + back + told), True)
            self.assertIs(is_plan(skin, far, vanes, back), True)
            self.assertIs(is_plan(skin, vanes, vanes, ()), True)
            if told:
                seen += 1
                self.assertIs(is_plan(skin, vanes, far, told[:-1]), False)
                self.assertIs(is_plan(skin, vanes, turned_on(far, told[-1][0], -told[-1][1]), told), False)
                self.assertIs(is_plan(skin, vanes, far, list(told)), False)
                self.assertIs(is_plan(skin, vanes, far, told[:-1] + (list(told[-1]),)), False)
                self.assertIs(is_plan(skin, vanes, far, ()), vanes == far)
        self.assertGreater(seen, 30)

    def test_a_pair_that_is_no_quarter_in_its_turn(self):
        self.assertIs(is_plan(TWIN, (0, 0), (1, 0), ((0, 1), (0, 1), (0, -1))), False)
        self.assertIs(is_plan(TWIN, (0, 0), (1, 0), ((0, 1), (1, 1), (1, -1))), True)
        # Twice on is barred; all the same the SIDES that come would be those of far.
        self.assertIs(is_plan(TWIN, (0, 0), (2, 1), ((0, 1), (0, 1), (1, 1))), False)
        self.assertIs(is_plan(TWIN, (0, 0), (2, 1), ((0, 1), (1, 1), (0, 1))), True)

    def test_things_of_any_kind(self):
        good = ((0, 1),)
        self.assertIs(is_plan(TWIN, (0, 0), (1, 0), good), True)
        bad = [((0, True),), ((False, 1),), [(0, 1)], ([0, 1],), [[0, 1]], (0, 1), ((0,),), ((0, 1, 1),), ((0, 1), ()),
               ((0, 1), None), ((0, 1), 1), ("01",), ((0, "1"),), ((0, -3),), ((0, 5),), ((2, 1),), ((-2, 1),), ((0, 2),),
               ((0, 0), (0, 1)), ((0, 1), (0, 0)), ((0, 1), (2, 1)), "turn 0 on", endless(), ((0, 10 ** 30),), ((10 ** 30, 1),),
               ((1, 1),), ((0, -1),), ((0, 1), (1, -1)), (((0, 1),),), ((0, 1.0),)]
        for thing in NOTHINGS + bad:
            with self.subTest(thing=thing):
                self.assertIs(is_plan(TWIN, (0, 0), (1, 0), thing), False)
                self.assertIs(is_plan(TWIN, (0, 0), (0, 0), thing), thing == () and isinstance(thing, tuple))
                self.assertIs(is_plan(PILLOW, (0, 1), (1, 2), thing), False)
        self.assertIs(is_plan(TWIN, (0, 0), (0, 0), []), False)


class Refusals(unittest.TestCase):
    def test_no_skin_ahead_of_all(self):
        for skin in not_skins():
            for vanes, far in (((0,), (0,)), (None, None)):
                for call in CALLS:
                    self.assertRaises(Unfit, call, skin, vanes, far)
                self.assertRaises(Unfit, is_plan, skin, vanes, far, ())

    def test_no_vanes(self):
        for skin, good in ((LOOP, (0,)), (TWIN, (0, 0)), (PILLOW, (0, 1)), (CUBE, (0,) * 6)):
            for bad in not_vanes(skin):
                with self.subTest(skin=skin, bad=bad):
                    for call in CALLS:
                        self.assertRaises(Unfit, call, skin, bad, good)
                        self.assertRaises(Unfit, call, skin, good, bad)
                    self.assertRaises(Unfit, is_plan, skin, bad, good, None)
                    self.assertRaises(Unfit, is_plan, skin, good, bad, ())

    def test_vanes_of_another_wish_whatever_is_tight(self):
        belt = torus(1, 4, 0)
        rows = [(PILLOW, (0, 1), (0, 3)), (CUBE, (0,) * 6, (0, 0, 0, 0, 3, 1)), (belt, (0, 0, 0, 0), (0, 1, 2, 3)),
                (belt, (0, 1, 2, 3), (0, 0, 0, 0))]
        self.assertEqual([bool(tight_fields(skin, vanes)) for skin, vanes, _ in rows], [True, True, False, True])
        for skin, vanes, far in rows:
            self.assertNotEqual(wish_of(skin, vanes), wish_of(skin, far))
            for call in CALLS:
                self.assertRaises(Unfit, call, skin, vanes, far)
            for thing in ((), None, ((0, 1),)):
                self.assertRaises(Unfit, is_plan, skin, vanes, far, thing)


if __name__ == "__main__":
    unittest.main()
