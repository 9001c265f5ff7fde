"""Promise [1], and what [2] and [24] say of the whole program."""

import importlib
import unittest

from tests.aims import wish_on
from tests.cubes import PLAIN
from tests.samples import Dice, corner_rows, many_skins, rising_skins, skins_with_vanes
from tests.test_calls import INTERFACE
from tests.walks import gone_by, pairs_of_lots
from whirlskin.board import Board
from whirlskin.corners import lacks, sizes, x_of
from whirlskin.gaps import gap, tight_fields
from whirlskin.heaps import skin_of
from whirlskin.heights import height_counts
from whirlskin.judge import is_so, paper_against, reason_for
from whirlskin.lattice import higher, lower
from whirlskin.lays import bar, can_be, is_bar, lay
from whirlskin.plans import can_lead, fewest, plan
from whirlskin.trees import corner_tree, field_tree, handles, loose
from whirlskin.whirls import whirls, wish_of

# As the interface lists them, file by file.
NAMES = {
    "skins": "is_skin, edges, sewn_to, neighbours, renamed, alike, least_form",
    "moves": "mirrored, vanes_mirrored, ring_mirrored, vanes_renamed, can_sew, sewn_together",
    "corners": "corners, corner_at, corners_of, between, lacks, sizes, x_of",
    "rings": "is_ring, led, rest, gone_back, corner_ring, put_behind, asked_most",
    "trees": "field_tree, corner_tree, loose, handle_rings, handles, way_to",
    "vanes": "are_vanes, laid_flat, step, steps, turning, all_turned, with_vane",
    "whirls": "whirls, whirl_at, least_whirl, whirled, wish_of",
    "heights": "can_rise, are_heights, height_counts, pits, peaks",
    "wishes": "is_wish, bars_first, wide_steps, fits, asked",
    "lays": "can_be, lay, bar, is_bar, turnings_between",
    "cuts": "wants, rim_of, is_cut, cut, step_rows",
    "lots": "all_vanes, wishes, lot, many, place_of, vanes_at",
    "quarters": "is_quarter, quarters, barring, turned, behind",
    "gaps": "gap, by_gap, tight_fields, tight_ring, is_tight_ring, still_fields, room",
    "plans": "can_lead, shift, fewest, nearest, plan, is_plan, stuck",
    "lattice": "lower, higher, depth",
    "heaps": "is_heap, squares, box, is_pinched, has_hollow, skin_of, points, touched, put_change, heap_mirrored",
    "judge": "is_claim, is_so, paper_against, is_paper_against, reason_for, is_reason_for, first_fallen",
    "texts": "sides_name, ring_name, skin_text, plan_text, heap_text, sides_read, ring_read, read_skin, read_plan, read_heap",
}


class Whole(unittest.TestCase):
    def test_one_number_of_a_skin(self):
        """(a) WHIRLS of any VANES, LACKS, the trees and HEIGHTS all tell X."""
        for skin, vanes in skins_with_vanes():
            self.assertEqual(sum(whirls(skin, vanes)), x_of(skin))
        dice = Dice(170)
        for skin in many_skins():
            x = len(corner_rows(skin)) - len(skin)
            fields, edges, corners = sizes(skin)
            self.assertEqual([x_of(skin), corners - edges + fields, 2 - len(loose(skin)), 2 - 2 * handles(skin)], [x] * 4)
            self.assertEqual(sum(lacks(skin)), 4 * x)
            self.assertEqual(len(field_tree(skin)) + len(corner_tree(skin)) + len(loose(skin)), edges)
        for skin in rising_skins():
            heights = tuple(dice.mixed(range(len(corner_rows(skin)))))
            self.assertEqual(sum(height_counts(skin, heights)), x_of(skin))

    def test_a_wish_can_be_met_exactly_if_nothing_bars_it(self):
        """(b)"""
        dice, seen = Dice(171), {True: 0, False: 0}
        for skin in many_skins():
            for spread in (0, 0, 1):
                wish = wish_on(dice, skin, spread)
                good = can_be(skin, wish)
                seen[good] += 1
                self.assertIs(is_so(("wish", skin, wish)), good)
                if good:
                    self.assertEqual(wish_of(skin, lay(skin, wish)), wish)
                else:
                    self.assertIs(is_bar(skin, wish, bar(skin, wish)), True)
        self.assertGreater(min(seen.values()), 15)

    def test_vanes_of_one_wish_by_quarters(self):
        """(c) By one and the same number of whole turns at all FIELDS that can never turn."""
        for skin, vanes, far in pairs_of_lots()[::4]:
            held = {gap(skin, vanes, far)[own] for own in tight_fields(skin, vanes)}
            good = len(held) <= 1 and all(own % 4 == 0 for own in held)
            self.assertIs(can_lead(skin, vanes, far), good)
            if good:
                row = plan(skin, vanes, far)
                self.assertEqual((len(row), gone_by(skin, vanes, row)), (fewest(skin, vanes, far), far))

    def test_lesser_and_greater_heaps_judge_board(self):
        """(d)"""
        for skin, vanes, far in pairs_of_lots()[1::12]:
            low, high = lower(skin, vanes, vanes, far), higher(skin, vanes, vanes, far)
            self.assertEqual(wish_of(skin, low), wish_of(skin, high))
            desk = Board(skin, vanes)
            self.assertIs(can_lead(skin, vanes, far), is_so(("led", skin, vanes, far)))
            if can_lead(skin, vanes, far):
                self.assertEqual(desk.lead_to(far), fewest(skin, vanes, far))
        for cubes in PLAIN:
            skin = skin_of(cubes)
            for number in (x_of(skin), 1):
                told = paper_against(("x", skin, number)), reason_for(("x", skin, number))
                self.assertEqual(told[0] is None, number == x_of(skin))
                self.assertEqual(told[1] is None, number != x_of(skin))


class Interface(unittest.TestCase):
    def test_all_names_are_called_in_the_tests(self):
        self.assertEqual({module: list(own) for module, own in INTERFACE.items()},
                         {module: own.split(", ") for module, own in NAMES.items()})
        for module, own in NAMES.items():
            loaded = importlib.import_module("whirlskin." + module)
            for name in own.split(", "):
                self.assertEqual(getattr(loaded, name).__module__, "whirlskin." + module)
        self.assertEqual(Board.__module__, "whirlskin.board")


if __name__ == "__main__":
    unittest.main()
