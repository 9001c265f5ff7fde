"""Promise [5]: moves.py."""

import itertools
import unittest

from tests.kinds import NOTHINGS, not_skins
from tests.samples import (BRAID, CONE, CROOK, CUBE, Dice, LOOP, NAMED, PAIR, PILLOW, TWIN, WHEEL, crossings,
                           few_skins, from_seams, many_skins, renamed_at_haphazard, rings_on, seams_of,
                           skins_with_vanes, step_of)
from whirlskin.corners import corners, corners_of, lacks, x_of
from whirlskin.errors import NoField, Unfit
from whirlskin.moves import can_sew, mirrored, ring_mirrored, sewn_together, vanes_mirrored, vanes_renamed
from whirlskin.rings import is_ring, rest
from whirlskin.skins import alike, is_skin, renamed
from whirlskin.vanes import are_vanes, steps, turning


def glass(crossing):
    return crossing[0], (4 - crossing[1]) % 4


def whirls_by_pairs(skin, vanes):
    """The WHIRL of each CORNER, by the set of its pairs."""
    told = {}
    for row in corners(skin):
        sum_of_steps = sum(step_of(skin, vanes, (field, (side - 1) % 4)) for field, side in row)
        told[frozenset(row)] = (sum_of_steps + 4 - len(row)) // 4
        assert (sum_of_steps + 4 - len(row)) % 4 == 0
    return told


def sewn_by_hand(skin, field, other, far, turn):
    """Both SKINS sewn together, with FIELDS named by pairs first."""
    seams = {}
    for name, own, out in (("a", skin, field), ("b", other, far)):
        for (one, side), (two, back) in seams_of(own).items():
            if out not in (one, two):
                seams[(name, one), side] = ((name, two), back)
    for side in range(4):
        left, right = skin[field][side], other[far][(turn - side) % 4]
        one, two = (("a", left[0]), left[1]), (("b", right[0]), right[1])
        seams[one], seams[two] = two, one
    order = sorted({own for own, _ in seams})
    named = {(order.index(one[0]), one[1]): (order.index(two[0]), two[1]) for one, two in seams.items()}
    return from_seams(named, len(order))


class Mirrored(unittest.TestCase):
    def test_skins(self):
        for skin in many_skins():
            told = mirrored(skin)
            self.assertEqual(seams_of(told), {glass(one): glass(two) for one, two in seams_of(skin).items()})
            self.assertIs(is_skin(told), True)
            self.assertEqual(mirrored(told), skin)
            self.assertEqual(sorted(lacks(told)), sorted(lacks(skin)))

    def test_corners_are_told_anew(self):
        for skin in many_skins():
            # The corner between SIDES b - 1 and b stands between SIDES -b and 1 - b.
            sets = {frozenset((field, (1 - side) % 4) for field, side in row) for row in corners(skin)}
            self.assertEqual({frozenset(row) for row in corners(mirrored(skin))}, sets)

    def test_vanes(self):
        for skin, vanes in skins_with_vanes():
            glassy, told = mirrored(skin), vanes_mirrored(skin, vanes)
            self.assertEqual(told, tuple((4 - own) % 4 for own in vanes))
            self.assertIs(are_vanes(glassy, told), True)
            self.assertEqual(vanes_mirrored(glassy, told), vanes)
            before, behind = steps(skin, vanes), steps(glassy, told)
            for field, side in crossings(skin):
                self.assertEqual(behind[field][(4 - side) % 4], -before[field][side])
            whirls = {frozenset((field, (1 - side) % 4) for field, side in pairs): whirl
                      for pairs, whirl in whirls_by_pairs(skin, vanes).items()}
            self.assertEqual(whirls_by_pairs(glassy, told), whirls)

    def test_rings(self):
        dice = Dice(17)
        for skin, vanes in skins_with_vanes():
            glassy = mirrored(skin)
            for ring in rings_on(skin, dice)[:4]:
                told = ring_mirrored(skin, ring)
                self.assertEqual(told, tuple(glass(own) for own in ring))
                self.assertIs(is_ring(glassy, told), True)
                self.assertEqual(ring_mirrored(glassy, told), ring)
                self.assertEqual(rest(glassy, told), -rest(skin, ring) % 4)
                self.assertEqual(turning(glassy, vanes_mirrored(skin, vanes), told), -turning(skin, vanes, ring))

    def test_some_are_alike_to_their_mirror_and_some_are_not(self):
        self.assertEqual([alike(mirrored(own), own) for own in (CUBE, PILLOW, CROOK)], [True, True, False])


class Renamed(unittest.TestCase):
    def test_vanes_renamed(self):
        dice = Dice(18)
        for skin, vanes in skins_with_vanes():
            order, turns, other = renamed_at_haphazard(dice, skin)
            told = vanes_renamed(skin, vanes, order, turns)
            self.assertEqual(other, renamed(skin, order, turns))
            self.assertIs(are_vanes(other, told), True)
            before, behind = steps(skin, vanes), steps(other, told)
            for place, (field, turn) in enumerate(zip(order, turns)):
                self.assertEqual(told[place], (vanes[field] - turn) % 4)
                for side in range(4):
                    self.assertEqual(behind[place][(side - turn) % 4], before[field][side])

    def test_all_names_of_a_small_skin(self):
        for order in itertools.permutations(range(3)):
            for turns in itertools.product(range(4), repeat=3):
                told = vanes_renamed(PAIR, (0, 0, 0), order, turns)
                self.assertIs(are_vanes(renamed(PAIR, order, turns), told), True)

    def test_no_order_no_turns(self):
        for bad in [(0, 0), (0,), (), (0, 1, 2), (0, 2), (-1, 0), (0, True), "01", None, {0, 1}, [[0], [1]]]:
            self.assertRaises(Unfit, vanes_renamed, TWIN, (0, 1), bad, (0, 0))
        for bad in [(0,), (), (0, 0, 0), (0, 4), (-1, 0), (0, True), "00", None, {0: 0, 1: 0}, [[0], [0]]]:
            self.assertRaises(Unfit, vanes_renamed, TWIN, (0, 1), (0, 1), bad)


class Sewn(unittest.TestCase):
    def places(self):
        """A good many (skin, field, other, far)."""
        dice = Dice(19)
        skins = few_skins() + list(NAMED)
        for skin in skins:
            for other in skins[::3] + [CUBE, PILLOW, BRAID]:
                yield skin, dice.below(len(skin)), other, dice.below(len(other))

    def test_can_sew_by_its_words(self):
        seen = set()
        for skin, field, other, far in self.places():
            own = field in [to for to, _ in skin[field]] or far in [to for to, _ in other[far]]
            fours = len(set(corners_of(skin, field))) == 4, len(set(corners_of(other, far))) == 4
            seen.add((own, fours))
            self.assertIs(can_sew(skin, field, other, far), not own and True in fours)
        self.assertTrue({(False, own) for own in itertools.product((True, False), repeat=2)} <= seen)

    def test_sewn_together_by_each_turn(self):
        done = 0
        for skin, field, other, far in self.places():
            for turn in range(4):
                if not can_sew(skin, field, other, far):
                    self.assertRaises(Unfit, sewn_together, skin, field, other, far, turn)
                    continue
                told = sewn_together(skin, field, other, far, turn)
                done += 1
                self.assertEqual(told, sewn_by_hand(skin, field, other, far, turn))
                self.assertIs(is_skin(told), True)
                self.assertEqual(len(told), len(skin) + len(other) - 2)
                self.assertEqual(x_of(told), x_of(skin) + x_of(other) - 2)
        self.assertGreater(done, 200)

    def test_four_corners_on_either_side(self):
        self.assertEqual(len(set(corners_of(PAIR, 0))), 1)
        self.assertIs(can_sew(PAIR, 0, CUBE, 3), True)
        self.assertIs(can_sew(CUBE, 3, PAIR, 0), True)
        self.assertIs(can_sew(WHEEL, 0, PAIR, 0), False)

    def test_sewn_to_itself_on_either_side(self):
        for skin in (LOOP, CONE, TWIN):
            self.assertIs(can_sew(skin, 0, CUBE, 0), False)
            self.assertIs(can_sew(CUBE, 0, skin, 0), False)
            for turn in range(4):
                self.assertRaises(Unfit, sewn_together, skin, 0, CUBE, 0, turn)
                self.assertRaises(Unfit, sewn_together, CUBE, 0, skin, 0, turn)

    def test_no_field_of_the_first_ahead_of_the_second(self):
        for function, more in ((can_sew, ()), (sewn_together, (0,))):
            for field in (-1, -6, 6, 7, 10 ** 6):
                for far in (0, -1, 1, 99):
                    with self.assertRaises(NoField) as caught:
                        function(CUBE, field, LOOP, far, *more)
                    self.assertEqual(caught.exception.field, field)
            for far in (-1, 1, 2, -10 ** 6):
                with self.assertRaises(NoField) as caught:
                    function(CUBE, 5, LOOP, far, *more)
                self.assertEqual(caught.exception.field, far)


class Refusals(unittest.TestCase):
    def test_no_skin_ahead_of_all(self):
        for skin in not_skins():
            self.assertRaises(Unfit, mirrored, skin)
            for own in ((0,), None):
                self.assertRaises(Unfit, vanes_mirrored, skin, own)
                self.assertRaises(Unfit, ring_mirrored, skin, own)
                self.assertRaises(Unfit, vanes_renamed, skin, own, own, own)
            for field in (0, 99):
                for one, two in ((skin, CUBE), (CUBE, skin)):
                    self.assertRaises(Unfit, can_sew, one, field, two, field)
                    self.assertRaises(Unfit, sewn_together, one, field, two, field, 0)

    def test_no_vanes_no_ring(self):
        for own in NOTHINGS + [(0, 2), (0,), (0, 1, 0), (0, True), (0, 4)]:
            self.assertRaises(Unfit, vanes_mirrored, TWIN, own)
            self.assertRaises(Unfit, vanes_renamed, TWIN, own, (0, 1), (0, 0))
        for own in NOTHINGS + [((0, 0),), ((2, 0),), ((0, 1), (1, 1)), ((0, 4),)]:
            self.assertRaises(Unfit, ring_mirrored, TWIN, own)


if __name__ == "__main__":
    unittest.main()
