"""Promise [9]: vanes.py."""

import itertools
import unittest

from tests.kinds import NOTHINGS, endless, not_skins
from tests.samples import (CONE, CUBE, Dice, LOOP, NAMED, PAIR, PILLOW, TWIN, WHEEL, all_skins, crossings, many_skins,
                           rings_on, skins_with_vanes, step_of)
from whirlskin.errors import NoField, Unfit
from whirlskin.rings import gone_back, led, rest
from whirlskin.vanes import all_turned, are_vanes, laid_flat, step, steps, turning, with_vane

# None of these are VANES of TWIN.
NOT_VANES = NOTHINGS + [
    (0, 2), (2, 0), (1, 3), (3, 1), (0,), (0, 1, 0), (0, 4), (-1, 0), (3, -1), (0, True), (False, 0), (True, True),
    (0, None), ("0", "1"), "01", (0, 1.0), ((0, 1),), ((0,), (1,)), [[0], [1]], {0: 0, 1: 1}, {0, 1}, range(2),
    (0, 10 ** 6), endless(),
]


def all_sides(skin):
    return itertools.product(range(4), repeat=len(skin))


class AreVanes(unittest.TestCase):
    def test_by_the_steps_of_all_sides(self):
        for skin in list(NAMED[:9]) + all_skins(1) + all_skins(2)[::7]:
            for sides in all_sides(skin):
                good = all(step_of(skin, sides, own) != 2 for own in crossings(skin))
                self.assertIs(are_vanes(skin, sides), good)

    def test_vanes_of_many_skins(self):
        for skin, vanes in skins_with_vanes():
            self.assertIs(are_vanes(skin, vanes), True)
            self.assertIs(are_vanes(skin, list(vanes)), False)
            self.assertIs(are_vanes(skin, vanes + vanes[:1]), False)
            self.assertIs(are_vanes(skin, vanes[:-1]), False)
            self.assertIs(are_vanes(skin, vanes[:-1] + (vanes[-1] + 4,)), False)
            self.assertIs(are_vanes(skin, vanes[:-1] + (vanes[-1] - 4,)), False)

    def test_a_step_of_two_is_seen_over_each_crossing(self):
        for skin, vanes in skins_with_vanes():
            for field in range(min(len(skin), 12)):
                for side in range(4):
                    sides = vanes[:field] + (side,) + vanes[field + 1:]
                    good = all(step_of(skin, sides, (field, own)) != 2 for own in range(4))
                    self.assertIs(are_vanes(skin, sides), good)

    def test_things_of_any_kind(self):
        for thing in NOT_VANES:
            with self.subTest(thing=thing):
                self.assertIs(are_vanes(TWIN, thing), False)
        for thing in NOTHINGS:
            with self.subTest(thing=thing):
                self.assertIs(are_vanes(LOOP, thing), False)
                self.assertIs(are_vanes(CUBE, thing), False)

    def test_no_skin_whatever_the_thing_is(self):
        for skin in not_skins():
            for thing in ((0,), None, ()):
                self.assertRaises(Unfit, are_vanes, skin, thing)

    def test_many_skins_have_vanes(self):
        rows = skins_with_vanes()
        self.assertGreater(len(rows), 100)
        self.assertTrue({1, 2, 3, 40} <= {len(skin) for skin, _ in rows})


class Steps(unittest.TestCase):
    def test_laid_flat(self):
        for skin in many_skins():
            for field, side in crossings(skin)[:60]:
                other, back = skin[field][side]
                flat = [laid_flat(skin, (field, side), own) for own in range(4)]
                # The SIDE that is crossed comes to lie opposite to the one come in over.
                self.assertEqual(flat[side], (back + 2) % 4)
                self.assertEqual(flat, [(flat[0] + own) % 4 for own in range(4)])
                self.assertEqual([laid_flat(skin, (other, back), own) for own in flat], [0, 1, 2, 3])

    def test_laid_flat_is_led(self):
        dice = Dice(14)
        for skin in many_skins():
            for ring in rings_on(skin, dice)[:3]:
                side = 1
                for crossing in ring:
                    side = laid_flat(skin, crossing, side)
                self.assertEqual(side, led(skin, ring, 1))

    def test_steps(self):
        for skin, vanes in skins_with_vanes():
            told = steps(skin, vanes)
            for field, side in crossings(skin):
                self.assertIn(told[field][side], (-1, 0, 1))
                self.assertEqual(told[field][side], step_of(skin, vanes, (field, side)))
                other, back = skin[field][side]
                self.assertEqual(told[field][side] + told[other][back], 0)
            for crossing in crossings(skin)[:30]:
                self.assertEqual(step(skin, vanes, crossing), told[crossing[0]][crossing[1]])
            self.assertEqual([len(own) for own in told], [4] * len(skin))

    def test_over_an_edge_to_itself_it_is_the_same_whatever_the_vane_is(self):
        seen = set()
        for skin, vanes in skins_with_vanes():
            own_edges = [own for own in crossings(skin) if skin[own[0]][own[1]][0] == own[0]]
            for crossing in own_edges[:8]:
                told = step(skin, vanes, crossing)
                seen.add(told)
                turned = {step(skin, all_turned(skin, vanes, number), crossing) for number in range(4)}
                self.assertEqual(turned, {told})
                for side in range(4):
                    sides = vanes[:crossing[0]] + (side,) + vanes[crossing[0] + 1:]
                    if are_vanes(skin, sides):
                        self.assertEqual(step(skin, sides, crossing), told)
        self.assertEqual(seen, {-1, 0, 1})

    def test_turning_and_rest(self):
        dice = Dice(15)
        for skin, vanes in skins_with_vanes():
            for ring in rings_on(skin, dice)[:4]:
                told = turning(skin, vanes, ring)
                self.assertEqual(told, sum(step_of(skin, vanes, own) for own in ring))
                self.assertEqual((told + rest(skin, ring)) % 4, 0)
                self.assertEqual(turning(skin, vanes, gone_back(skin, ring)), -told)

    def test_all_turned(self):
        for skin, vanes in skins_with_vanes():
            for number in (-10 ** 6, -5, -1, 0, 1, 2, 3, 4, 7, 10 ** 6):
                told = all_turned(skin, vanes, number)
                self.assertEqual(told, tuple((own + number) % 4 for own in vanes))
                self.assertIs(are_vanes(skin, told), True)
            self.assertEqual(steps(skin, all_turned(skin, vanes, 3)), steps(skin, vanes))

    def test_no_others_have_these_steps(self):
        for skin in (LOOP, CONE, TWIN, PILLOW, WHEEL, PAIR):
            by_steps = {}
            for sides in all_sides(skin):
                if are_vanes(skin, sides):
                    by_steps.setdefault(steps(skin, sides), []).append(sides)
            for rows in by_steps.values():
                self.assertEqual(rows, sorted(all_turned(skin, rows[0], number) for number in range(4)))

    def test_with_vane(self):
        dice = Dice(16)
        for skin, vanes in skins_with_vanes():
            field = dice.below(len(skin))
            for side in range(4):
                sides = vanes[:field] + (side,) + vanes[field + 1:]
                if are_vanes(skin, sides):
                    self.assertEqual(with_vane(skin, vanes, field, side), sides)
                else:
                    self.assertRaises(Unfit, with_vane, skin, vanes, field, side)


class Refusals(unittest.TestCase):
    def test_no_vanes_ahead_of_no_field(self):
        for vanes in NOT_VANES:
            with self.subTest(vanes=vanes):
                for field in (0, 2, -1):
                    self.assertRaises(Unfit, step, TWIN, vanes, (field, 0))
                    self.assertRaises(Unfit, with_vane, TWIN, vanes, field, 0)
                self.assertRaises(Unfit, steps, TWIN, vanes)
                self.assertRaises(Unfit, turning, TWIN, vanes, ((0, 1),))
                self.assertRaises(Unfit, all_turned, TWIN, vanes, 1)

    def test_no_ring(self):
        for ring in [own for own in NOTHINGS if own != ()] + [(), ((0, 0),), ((0, 1), (1, 1)), ((2, 0),), ((0, 4),)]:
            with self.subTest(ring=ring):
                self.assertRaises(Unfit, turning, TWIN, (0, 1), ring)

    def test_no_field(self):
        for field in (-1, -2, 2, 3, 10 ** 6, -10 ** 6):
            for call in (lambda: step(TWIN, (0, 1), (field, 0)), lambda: step(TWIN, [0, 1], [field, 3]),
                         lambda: laid_flat(TWIN, (field, 0), 0), lambda: with_vane(TWIN, (0, 1), field, 0),
                         lambda: with_vane(TWIN, (0, 1), field, 2)):
                with self.assertRaises(NoField) as caught:
                    call()
                self.assertEqual(caught.exception.field, field)

    def test_no_skin_ahead_of_all(self):
        for skin in not_skins():
            for vanes in ((0,), None):
                for field in (0, 99):
                    self.assertRaises(Unfit, step, skin, vanes, (field, 0))
                    self.assertRaises(Unfit, with_vane, skin, vanes, field, 0)
                    self.assertRaises(Unfit, laid_flat, skin, (field, 0), 0)
                self.assertRaises(Unfit, steps, skin, vanes)
                self.assertRaises(Unfit, turning, skin, vanes, ((0, 1),))
                self.assertRaises(Unfit, all_turned, skin, vanes, 1)

    def test_pillow_s_vanes_can_not_be_alike(self):
        self.assertEqual([are_vanes(PILLOW, (0, own)) for own in range(4)], [False, True, False, True])
        self.assertIs(are_vanes(PAIR, (0, 0, 0)), True)


if __name__ == "__main__":
    unittest.main()
