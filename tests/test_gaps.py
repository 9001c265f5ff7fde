"""Promise [17]: gaps.py."""

import itertools
import unittest

from tests.kinds import NOTHINGS, endless, not_skins
from tests.samples import (BRAID, CUBE, Dice, LOOP, PAIR, PILLOW, TWIN, TWIST, all_skins, crossings, heap_skins, ring_on,
                           skins_with_vanes, step_of, torus, vanes_on)
from tests.walks import (difference, distances, free_turns, lots_of, not_vanes, pairs_of_lots, rooms_by_hand, small_lots,
                         stands, straight_ways, tight_by_hand, turned_on)
from whirlskin.errors import CanNot, NoField, Unfit
from whirlskin.gaps import by_gap, gap, is_tight_ring, room, still_fields, tight_fields, tight_ring
from whirlskin.rings import gone_back, is_ring
from whirlskin.vanes import all_turned, are_vanes
from whirlskin.whirls import wish_of

# Pairs of VANES of unlike WISHES.
OTHERS = (((PILLOW, (0, 1)), (0, 3)), ((CUBE, (0, 0, 0, 0, 0, 0)), (0, 0, 0, 0, 3, 1)))


def larger():
    dice = Dice(102)
    return skins_with_vanes()[1::3] + [(skin, vanes_on(skin, dice)) for skin in heap_skins()]


class Gap(unittest.TestCase):
    def test_exactly_between_vanes_of_one_wish(self):
        seen = {True: 0, False: 0}
        for skin in all_skins(1) + all_skins(2)[::9] + [PILLOW, TWIST, PAIR, CUBE, BRAID]:
            lots = lots_of(skin)
            had = sorted(vanes for lot in lots.values() for vanes in lot)
            some = had[::len(had) // 16 + 1]
            for one, two in itertools.product(some, some):
                told = difference(skin, one, two)
                alike = wish_of(skin, one) == wish_of(skin, two)
                seen[alike] += 1
                self.assertIs(told is not None, alike)
                if alike:
                    self.assertEqual(gap(skin, one, two), told)
                else:
                    self.assertRaises(Unfit, gap, skin, one, two)
        self.assertGreater(min(seen.values()), 300)

    def test_its_words_on_larger_skins(self):
        wide = 0
        for skin, one, two in pairs_of_lots():
            told = gap(skin, one, two)
            self.assertIn(told[0], (0, 1, 2, 3))
            wide = max(wide, max(told) - min(told))
            for field, number in enumerate(told):
                self.assertEqual((one[field] + number - two[field]) % 4, 0)
            for field, side in crossings(skin):
                more = step_of(skin, two, (field, side)) - step_of(skin, one, (field, side))
                self.assertEqual(told[skin[field][side][0]] - told[field], more)
        self.assertGreater(wide, 3)

    def test_there_and_back_and_to_the_same(self):
        for skin, one, two in pairs_of_lots()[::3]:
            there, back = gap(skin, one, two), gap(skin, two, one)
            self.assertEqual(len({near + far for near, far in zip(there, back)}), 1)
            self.assertIn(there[0] + back[0], (0, 4))
            self.assertEqual(gap(skin, one, one), (0,) * len(skin))
            for turn in range(4):
                self.assertEqual(gap(skin, one, all_turned(skin, one, turn)), (turn,) * len(skin))


class ByGap(unittest.TestCase):
    def test_by_the_gap_and_four_more_and_by_no_other_numbers(self):
        good = 0
        for skin, _, lot in small_lots(3, 2):
            vanes = lot[len(lot) // 2]
            ways = {}
            for far in lot:
                start = gap(skin, vanes, far)
                for k in range(-4, 4):
                    ways[tuple(own + 4 * k for own in start)] = far
            spread = {1: range(-9, 10), 2: range(-5, 7), 3: range(-3, 5)}[len(skin)]
            for numbers in itertools.product(spread, repeat=len(skin)):
                if numbers in ways:
                    good += 1
                    self.assertEqual(by_gap(skin, vanes, numbers), ways[numbers])
                else:
                    self.assertRaises(CanNot, by_gap, skin, vanes, numbers)
        self.assertGreater(good, 300)

    def test_there_and_near_it_on_larger_skins(self):
        dice = Dice(103)
        for skin, one, two in pairs_of_lots():
            told = gap(skin, one, two)
            for k in (0, 1, -1, 7, -250000):
                self.assertEqual(by_gap(skin, one, tuple(own + 4 * k for own in told)), two)
            for more in (1, -1, 2, 4, -4, 400000):
                at = dice.below(len(skin))
                numbers = told[:at] + (told[at] + more,) + told[at + 1:]
                far = tuple((own + number) % 4 for own, number in zip(one, numbers))
                if stands(skin, far) and difference(skin, one, far) is not None:
                    least = difference(skin, one, far)
                    same = len({own - least[field] for field, own in enumerate(numbers)}) == 1
                    if same and (numbers[0] - least[0]) % 4 == 0:
                        self.assertEqual(by_gap(skin, one, numbers), far)
                        continue
                self.assertRaises(CanNot, by_gap, skin, one, numbers)

    def test_vanes_by_four_but_not_by_numbers(self):
        # All the same VANES by four; the numbers do not go with the STEPS.
        self.assertEqual(by_gap(TWIN, (0, 0), (4, 4)), (0, 0))
        for numbers in ((4, 0), (0, 4), (-4, 0), (8, 4), (10 ** 6, 0)):
            self.assertRaises(CanNot, by_gap, TWIN, (0, 0), numbers)
        self.assertRaises(CanNot, by_gap, PILLOW, (0, 1), (0, 2))
        self.assertRaises(CanNot, by_gap, PILLOW, (0, 1), (0, 1))
        self.assertEqual(by_gap(LOOP, (1,), (-10 ** 6 - 1,)), (0,))


class Tight(unittest.TestCase):
    def test_exactly_what_no_vanes_of_the_wish_can_turn(self):
        seen = {"all": 0, "some": 0, "none": 0}
        for skin, had, lot in small_lots():
            free = {pair[0] for vanes in lot for pair in free_turns(skin, vanes)}
            tight = tuple(field for field in range(len(skin)) if field not in free)
            seen["none" if not tight else "all" if not free else "some"] += 1
            for vanes in lot[::len(lot) // 12 + 1]:
                self.assertEqual(tight_fields(skin, vanes), tight)
                self.look_at_rings(skin, vanes, tight)
        self.assertGreater(min(seen.values()), 5, seen)

    def look_at_rings(self, skin, vanes, tight):
        for field in range(len(skin)):
            if field in tight:
                ring = tight_ring(skin, vanes, field)
                self.assertIs(is_ring(skin, ring), True)
                self.assertIn(field, [own for own, _ in ring])
                self.assertLessEqual(set(ring), set(straight_ways(skin, vanes)))
                self.assertIs(is_tight_ring(skin, vanes, ring), True)
            else:
                self.assertRaises(CanNot, tight_ring, skin, vanes, field)

    def test_on_larger_skins(self):
        seen = 0
        for skin, vanes in larger():
            tight = tight_by_hand(skin, vanes)
            seen += 0 < len(tight) < len(skin)
            self.assertEqual(tight_fields(skin, vanes), tight)
            self.look_at_rings(skin, vanes, tight)
        self.assertGreater(seen, 10)

    def test_tight_rings_stay_so_and_have_one_number(self):
        seen = 0
        for skin, _, lot in small_lots():
            for field in tight_fields(skin, lot[0])[:3]:
                ring = tight_ring(skin, lot[0], field)
                for far in lot[::len(lot) // 20 + 1]:
                    seen += 1
                    self.assertIs(is_tight_ring(skin, far, ring), True)
                    told = gap(skin, lot[0], far)
                    self.assertEqual(len({told[own] for own, _ in ring}), 1)
        self.assertGreater(seen, 100)

    def test_a_field_sewn_to_itself_bars_nothing(self):
        for skin in all_skins(1):
            for side in range(4):
                self.assertEqual(tight_fields(skin, (side,)), ())
                self.assertEqual(still_fields(skin, (side,)), ())
                self.assertRaises(CanNot, tight_ring, skin, (side,), 0)
                for own in range(4):
                    self.assertIs(is_tight_ring(skin, (side,), ((0, own),)), False)
        # TWIST's neighbour of one FIELD: STEPS of 1 over the EDGE from a FIELD to itself are no tight way.
        seen = 0
        for skin, vanes in skins_with_vanes():
            for field, side in crossings(skin):
                if skin[field][side][0] == field and step_of(skin, vanes, (field, side)) == 1:
                    seen += 1
                    self.assertIs(is_tight_ring(skin, vanes, ((field, side),)), False)
        self.assertGreater(seen, 20)

    def test_all_turned_alike(self):
        for skin, vanes in larger()[::3]:
            for turn in (1, 2, 3):
                far = all_turned(skin, vanes, turn)
                self.assertEqual(tight_fields(skin, far), tight_fields(skin, vanes))
                self.assertEqual(still_fields(skin, far), still_fields(skin, vanes))
                self.assertEqual(room(skin, far, 0, len(skin) - 1), room(skin, vanes, 0, len(skin) - 1))


class IsTightRing(unittest.TestCase):
    def test_rings_at_haphazard(self):
        dice, seen = Dice(104), {True: 0, False: 0}
        for skin, vanes in larger():
            straight = set(straight_ways(skin, vanes))
            rings = [ring_on(skin, dice, dice.below(len(skin)), least) for least in (1, 1, 2, 4)]
            for field in tight_fields(skin, vanes)[:2]:
                ring = tight_ring(skin, vanes, field)
                rings += [ring, ring * 2, ring[1:] + ring[:1], gone_back(skin, ring), ring + gone_back(skin, ring)]
                self.assertIs(is_tight_ring(skin, vanes, list(ring)), False)
                self.assertIs(is_tight_ring(skin, vanes, (list(ring[0]),) + ring[1:]), False)
                self.assertIs(is_tight_ring(skin, vanes, ring[:-1]), False)
                self.assertIs(is_tight_ring(skin, vanes, ring + ring[:1]), False)
            for ring in rings:
                good = set(ring) <= straight
                seen[good] += 1
                self.assertIs(is_tight_ring(skin, vanes, ring), good)
        self.assertGreater(min(seen.values()), 60)

    def test_things_of_any_kind(self):
        self.assertIs(is_tight_ring(PILLOW, (0, 1), ((0, 1), (1, 0))), True)
        self.assertIs(is_tight_ring(PILLOW, (0, 1), ((0, 3), (1, 0), (0, 1), (1, 2))), True)
        bad = [((0, 1), (1, False)), ((0, True), (1, 0)), ((False, 1), (1, 0)), ((0, 1), (True, 0)), [(0, 1), (1, 0)],
               ([0, 1], (1, 0)), ((0, 1),), ((0, 1), (1, 0), (0, 1)), ((0, 1), (1, 1)), ((0, 1), (0, 3)), ((0, 1), (2, 0)),
               ((0, 1), (-1, 0)), ((0, 1), (1, 4)), ((0, 1), (1, -4)), ((0, 1), (1, 0), ()), ((0, 1), "10"), (0, 1), ((0, 1), (1,)),
               ((0, 1), (1, 0, 0)), ((0, 1), None), ((0, 5), (1, 0)), ((0, -3), (1, 0)), "0.1,1.0", endless()]
        for thing in NOTHINGS + bad:
            with self.subTest(thing=thing):
                self.assertIs(is_tight_ring(PILLOW, (0, 1), thing), False)
                self.assertIs(is_tight_ring(TWIN, (0, 0), thing), False)


class Still(unittest.TestCase):
    def test_exactly_what_no_plan_turns(self):
        seen = {"tight": 0, "more": 0, "none": 0}
        for skin, had, lot in small_lots():
            for vanes in lot[::len(lot) // 8 + 1]:
                free = {pair[0] for own in distances(had, vanes) for pair in free_turns(skin, own)}
                told = still_fields(skin, vanes)
                self.assertEqual(told, tuple(field for field in range(len(skin)) if field not in free))
                tight = tight_fields(skin, vanes)
                self.assertLessEqual(set(tight), set(told))
                seen["more" if set(tight) < set(told) else "tight" if told else "none"] += 1
        self.assertGreater(min(seen.values()), 3, seen)

    def test_by_rooms_on_larger_skins(self):
        more = 0
        for skin, vanes in larger():
            tight = tight_by_hand(skin, vanes)
            there = [rooms_by_hand(skin, vanes, own) for own in tight]
            still = []
            for field in range(len(skin)):
                back = rooms_by_hand(skin, vanes, field)
                if any(own[field] == 0 for own in there) and any(back[own] == 0 for own in tight):
                    still.append(field)
            more += len(still) > len(tight)
            self.assertEqual(still_fields(skin, vanes), tuple(still))
        self.assertGreater(more, 3)

    def test_on_no_tight_ring_and_yet_still(self):
        one, two = (1, 2, 0, 3, 1), (1, 2, 1, 3, 2)
        self.assertNotIn(0, tight_fields(BRAID, one))
        self.assertIn(0, still_fields(BRAID, one))
        self.assertEqual([pair for pair in free_turns(BRAID, one) if pair[0] == 0], [])
        self.assertEqual({pair[0] for pair in free_turns(BRAID, two)}, {0})
        self.assertEqual(wish_of(BRAID, one), wish_of(BRAID, two))


class Room(unittest.TestCase):
    def test_the_greatest_difference_of_gaps(self):
        seen = set()
        for skin, _, lot in small_lots():
            vanes = lot[len(lot) // 3]
            gaps = [gap(skin, vanes, far) for far in lot]
            rooms = {}
            for field, other in itertools.product(range(len(skin)), repeat=2):
                rooms[field, other] = max(own[other] - own[field] for own in gaps)
                self.assertEqual(room(skin, vanes, field, other), rooms[field, other])
            seen.update(rooms.values())
            tight = tuple(field for field in range(len(skin)) if any(
                rooms[field, other] == rooms[other, field] == 0 for other in range(len(skin)) if other != field))
            self.assertEqual(tight_fields(skin, vanes), tight)
        self.assertLessEqual({0, 1, 2, 3}, seen)

    def test_on_larger_skins(self):
        most = 0
        for skin, vanes in larger():
            for field in {0, len(skin) // 2, len(skin) - 1}:
                told = [room(skin, vanes, field, other) for other in range(len(skin))]
                self.assertEqual(told, rooms_by_hand(skin, vanes, field))
                most = max(most, max(told))
                # All of these rooms at once are come by: no VANES of the WISH have more, these have just so.
                far = by_gap(skin, vanes, tuple(told))
                self.assertEqual(wish_of(skin, far), wish_of(skin, vanes))
        self.assertGreater(most, 4)

    def test_the_far_end_of_a_belt(self):
        skin = torus(1, 40, 0)
        self.assertEqual([room(skin, (0,) * 40, 0, own) for own in (0, 1, 20, 39)], [0, 1, 20, 1])


class Refusals(unittest.TestCase):
    def test_no_skin_ahead_of_all(self):
        for skin in not_skins():
            for vanes in ((0,), None):
                self.assertRaises(Unfit, gap, skin, vanes, (0,))
                self.assertRaises(Unfit, by_gap, skin, vanes, (0,))
                self.assertRaises(Unfit, tight_fields, skin, vanes)
                self.assertRaises(Unfit, tight_ring, skin, vanes, 9)
                self.assertRaises(Unfit, is_tight_ring, skin, vanes, None)
                self.assertRaises(Unfit, still_fields, skin, vanes)
                self.assertRaises(Unfit, room, skin, vanes, 9, 9)

    def test_no_vanes_ahead_of_all_else(self):
        for skin, good in ((LOOP, (0,)), (TWIN, (0, 0)), (PILLOW, (0, 1)), (CUBE, (0,) * 6)):
            for vanes in not_vanes(skin):
                with self.subTest(skin=skin, vanes=vanes):
                    self.assertRaises(Unfit, gap, skin, vanes, good)
                    self.assertRaises(Unfit, gap, skin, good, vanes)
                    self.assertRaises(Unfit, by_gap, skin, vanes, (0,) * len(skin))
                    self.assertRaises(Unfit, tight_fields, skin, vanes)
                    self.assertRaises(Unfit, tight_ring, skin, vanes, 99)
                    self.assertRaises(Unfit, is_tight_ring, skin, vanes, ())
                    self.assertRaises(Unfit, still_fields, skin, vanes)
                    self.assertRaises(Unfit, room, skin, vanes, 99, 99)

    def test_vanes_of_another_wish(self):
        for (skin, vanes), far in OTHERS:
            self.assertIs(are_vanes(skin, far), True)
            self.assertRaises(Unfit, gap, skin, vanes, far)
            self.assertRaises(Unfit, gap, skin, far, vanes)
        # Other turnings alone: once round the belt or not.
        skin = torus(1, 4, 0)
        self.assertEqual(wish_of(skin, (0, 0, 0, 0))[0], wish_of(skin, (0, 1, 2, 3))[0])
        self.assertRaises(Unfit, gap, skin, (0, 0, 0, 0), (0, 1, 2, 3))

    def test_no_field(self):
        for skin, vanes in ((LOOP, (0,)), (PILLOW, (0, 1)), (CUBE, (0,) * 6)):
            for field in (-1, -len(skin), len(skin), len(skin) + 5, 10 ** 6, -10 ** 6):
                for call, values in ((tight_ring, (field,)), (room, (field, 0)), (room, (0, field)), (room, (field, 77)),
                                     (room, (field, field))):
                    with self.assertRaises(NoField) as caught:
                        call(skin, vanes, *values)
                    self.assertEqual(caught.exception.field, field)

    def test_turned_on_by_hand(self):
        self.assertEqual(turned_on((0, 3, 1), 1, 1), (0, 0, 1))


if __name__ == "__main__":
    unittest.main()
