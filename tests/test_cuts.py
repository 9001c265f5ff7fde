"""Promise [14]: cuts.py."""

import itertools
import unittest

from tests.aims import changed_at, nearly_whirls, whirls_on
from tests.kinds import NOTHINGS, endless, not_skins
from tests.samples import (CONE, CUBE, Dice, LOOP, PAIR, PILLOW, TWIN, TWIST, WHEEL, box_of, corner_rows, crossings,
                           every_vanes, framed, grown_skin, heap_skin, heap_skins, many_skins, small_skins, step_of,
                           torus, vanes_on)
from whirlskin.corners import x_of
from whirlskin.cuts import cut, is_cut, rim_of, step_rows, wants
from whirlskin.errors import CanNot, NoCorner, TooMany, Unfit
from whirlskin.lays import can_be
from whirlskin.vanes import steps
from whirlskin.whirls import whirls

# Without HANDLES; with these whirls there are just 399, 400, 401 rows of STEPS.
ROWS_399 = (((1, 2), (8, 0), (3, 2), (4, 2)), ((6, 0), (9, 0), (0, 0), (4, 1)), ((6, 2), (7, 2), (8, 2), (9, 2)),
            ((5, 1), (4, 3), (0, 2), (7, 0)), ((5, 2), (1, 3), (0, 3), (3, 1)), ((10, 0), (3, 0), (4, 0), (10, 3)),
            ((1, 0), (7, 3), (2, 0), (9, 1)), ((3, 3), (11, 0), (2, 1), (6, 1)), ((0, 1), (9, 3), (2, 2), (11, 3)),
            ((1, 1), (6, 3), (2, 3), (8, 1)), ((5, 0), (10, 2), (10, 1), (5, 3)), ((7, 1), (11, 2), (11, 1), (8, 3)))
WHIRLS_399 = (1, 0, -1, 0, -1, 0, 0, 1, 0, 0, 0, 0, 1, 1)
ROWS_400 = (((7, 0), (6, 0), (8, 1), (2, 2)), ((3, 2), (9, 3), (5, 2), (6, 2)), ((2, 1), (2, 0), (0, 3), (4, 0)),
            ((7, 3), (4, 3), (1, 0), (6, 1)), ((2, 3), (5, 3), (9, 0), (3, 1)), ((8, 0), (6, 3), (1, 2), (4, 1)),
            ((0, 1), (3, 3), (1, 3), (5, 1)), ((0, 0), (7, 2), (7, 1), (3, 0)), ((5, 0), (0, 2), (8, 3), (8, 2)),
            ((4, 2), (9, 2), (9, 1), (1, 1)))
WHIRLS_400 = (-1, 0, -1, 0, 0, 0, -1, 1, 1, 1, 1, 1)
ROWS_401 = (((8, 3), (9, 0), (1, 3), (2, 2)), ((3, 2), (5, 3), (2, 3), (0, 2)), ((5, 2), (4, 3), (0, 3), (1, 2)),
            ((4, 1), (6, 1), (1, 0), (9, 1)), ((7, 3), (3, 0), (8, 2), (2, 1)), ((6, 0), (7, 0), (2, 0), (1, 1)),
            ((5, 0), (3, 1), (6, 3), (6, 2)), ((5, 1), (7, 2), (7, 1), (4, 0)), ((8, 1), (8, 0), (4, 2), (0, 0)),
            ((0, 1), (3, 3), (9, 3), (9, 2)))
WHIRLS_401 = (0, 0, -1, 0, 0, 0, 0, -1, 1, 1, 1, 1)
# More of them, though for all FIELDS but the last ones there are just 400.
ROWS_MORE = (((2, 2), (3, 2), (4, 2), (6, 0)), ((7, 2), (8, 2), (9, 2), (10, 2)), ((7, 0), (3, 3), (0, 0), (5, 1)),
             ((10, 0), (4, 3), (0, 1), (2, 1)), ((9, 0), (5, 3), (0, 2), (3, 1)), ((11, 2), (2, 3), (6, 1), (4, 1)),
             ((0, 3), (5, 2), (6, 3), (6, 2)), ((2, 0), (8, 3), (1, 0), (10, 1)), ((11, 1), (9, 3), (1, 1), (7, 1)),
             ((4, 0), (10, 3), (1, 2), (8, 1)), ((3, 0), (7, 3), (1, 3), (9, 1)), ((11, 3), (8, 0), (5, 0), (11, 0)))
WHIRLS_MORE = (0, 0, 0, 0, 0, 0, 0, 1, 0, 0, 0, -1, 1, 1)


def spheres():
    """SKINS without HANDLES."""
    rows = [CONE, PILLOW, CUBE] + [own for own in many_skins() + heap_skins() if x_of(own) == 2]
    return rows + [framed(CUBE, 2), grown_skin(Dice(70), CONE, 17), grown_skin(Dice(71), PILLOW, 25)]


def small_spheres():
    rows = [own for own in small_skins() if x_of(own) == 2] + [heap_skin(box_of(1, 1, 2)), framed(PILLOW, 0)]
    return rows + [grown_skin(Dice(72 + at), CONE, 4) for at in range(6)]


def ends_by_hand(skin):
    """For each EDGE, told by its lesser CROSSING, the two CORNERS at which it ends."""
    at = {pair: number for number, row in enumerate(corner_rows(skin)) for pair in row}
    return {own: (at[own], at[own[0], (own[1] + 1) % 4]) for own in crossings(skin) if own < skin[own[0]][own[1]]}


def rim_by_hand(ends, lot):
    return sorted(edge for edge, (one, two) in ends.items() if (one in lot) != (two in lot))


def wants_by_hand(skin, aim):
    return tuple(4 * whirl + len(row) - 4 for whirl, row in zip(aim, corner_rows(skin)))


def cuts_by_hand(skin, aim):
    """All cuts: each set of CORNERS is tried out."""
    ends, wanted = ends_by_hand(skin), wants_by_hand(skin, aim)
    rows = []
    for size in range(1, len(wanted) + 1):
        for lot in itertools.combinations(range(len(wanted)), size):
            if abs(sum(wanted[own] for own in lot)) > len(rim_by_hand(ends, lot)):
                rows.append(lot)
    return rows


def some_whirls(dice, skin):
    """Whirls of unlike kinds: of VANES, nearly these, at haphazard, of another sum."""
    rows = [whirls_on(dice, skin, 1), whirls_on(dice, skin, 0), whirls_on(dice, skin, 3)]
    vanes = vanes_on(skin, dice)
    if vanes is not None:
        had = whirls(skin, vanes)
        one, two = dice.below(len(had)), dice.below(len(had))
        moved = changed_at(had, one, had[one] + 1)
        rows += [had, changed_at(moved, two, moved[two] - 1)]
    return rows + [tuple(dice.below(3) for _ in rows[0])]


class Wants(unittest.TestCase):
    def test_by_hand(self):
        dice = Dice(73)
        for skin in spheres():
            for aim in some_whirls(dice, skin):
                told = wants(skin, aim)
                self.assertEqual(told, wants_by_hand(skin, aim))
                # Over all CORNERS each STEP is met with its contrary.
                self.assertEqual(sum(told) == 0, sum(aim) == 2)

    def test_steps_come_to_what_is_wanted(self):
        dice = Dice(74)
        for skin in spheres():
            vanes = vanes_on(skin, dice)
            if vanes is not None:
                rows = steps(skin, vanes)
                around = [sum(rows[field][(side - 1) % 4] for field, side in row) for row in corner_rows(skin)]
                self.assertEqual(wants(skin, whirls(skin, vanes)), tuple(around))


class Rims(unittest.TestCase):
    def test_by_hand(self):
        dice = Dice(75)
        for skin in spheres():
            ends, many = ends_by_hand(skin), len(corner_rows(skin))
            lots = [(), tuple(range(many))] + [(own,) for own in range(many)][:9]
            lots += [tuple(own for own in range(many) if dice.below(2)) for _ in range(6)]
            for lot in lots:
                told = rim_of(skin, lot)
                self.assertEqual(told, rim_by_hand(ends, lot))
                others = tuple(own for own in range(many) if own not in lot)
                self.assertEqual(rim_of(skin, others), told)
            self.assertEqual((rim_of(skin, lots[0]), rim_of(skin, lots[1])), ([], []))

    def test_no_corner(self):
        for skin in (CONE, PILLOW, CUBE):
            many = len(corner_rows(skin))
            for bad in (-1, -many, many, many + 1, 10 ** 6, -10 ** 6):
                for lot in ((bad,), (0, bad), (bad, bad + 1), (0, 1, bad, 10 ** 5), [0, bad]):
                    with self.assertRaises(NoCorner) as caught:
                        rim_of(skin, lot)
                    self.assertEqual(caught.exception.corner, bad)


class Cuts(unittest.TestCase):
    def test_all_sets_of_small_skins(self):
        dice, seen = Dice(76), {True: 0, False: 0}
        for skin in small_spheres():
            had = {whirls(skin, own) for own in every_vanes(skin)} if len(skin) < 7 else None
            for aim in some_whirls(dice, skin):
                cuts = cuts_by_hand(skin, aim)
                seen[bool(cuts)] += 1
                many = len(corner_rows(skin))
                for size in range(many + 1):
                    for lot in itertools.combinations(range(many), size):
                        self.assertIs(is_cut(skin, aim, lot), lot in cuts)
                self.assertIs(can_be(skin, (aim, ())), not cuts)
                if had is not None:
                    self.assertIs(aim in had, not cuts)
                if cuts:
                    self.assertIn(cut(skin, aim), cuts)
                else:
                    self.assertRaises(CanNot, cut, skin, aim)
                whole = tuple(range(many))
                self.assertIs(whole in cuts, sum(aim) != 2)
                if sum(aim) == 2:
                    others = [tuple(own for own in whole if own not in lot) for lot in cuts]
                    self.assertEqual(sorted(others), sorted(cuts))
        self.assertGreater(min(seen.values()), 20)

    def test_whatever_is_told_is_so_on_larger_skins(self):
        dice, seen = Dice(77), {True: 0, False: 0}
        for skin in spheres():
            ends = ends_by_hand(skin)
            for aim in some_whirls(dice, skin):
                good = can_be(skin, (aim, ()))
                seen[good] += 1
                if good:
                    self.assertRaises(CanNot, cut, skin, aim)
                    continue
                told = cut(skin, aim)
                wanted = wants_by_hand(skin, aim)
                self.assertIs(is_cut(skin, aim, told), True)
                self.assertEqual(told, tuple(sorted(set(told))))
                self.assertGreater(abs(sum(wanted[own] for own in told)), len(rim_by_hand(ends, told)))
        self.assertGreater(min(seen.values()), 20)

    def test_just_as_many_as_the_rim_has_is_no_cut(self):
        # Both STEPS round a CORNER of the pillow are 1, and no more is wanted of it.
        self.assertEqual((wants(PILLOW, (1, 0, 1, 0))[0], len(rim_of(PILLOW, (0,)))), (2, 2))
        for size in range(5):
            for lot in itertools.combinations(range(4), size):
                self.assertIs(is_cut(PILLOW, (1, 0, 1, 0), lot), False)

    def test_things_of_any_kind(self):
        aim = (1, 1, 0, 0, 0, 0, 0, 0)
        self.assertIs(is_cut(CUBE, aim, (0, 1)), True)
        bad = [(1, 0), (0, 0, 1), (0, 1, 1), (0, 1, 0), (0, 1, 8), (-1, 0, 1), (0, -7), (0, True), (False, 1),
               (False, True), (0, "1"), (0, None), ((0,), (1,)), ((0, 1),), "01", [0, 1], (0, 1.0), {0, 1},
               {0: 0, 1: 1}, range(2), (0,), (0, 1, 10 ** 30), (0, 1, 2, 3, 4, 5, 6, 7), tuple(range(9)), (1, 2, 0),
               (0, (1,)), endless(), (0, 1) * 400]
        for thing in NOTHINGS + bad:
            with self.subTest(thing=thing):
                self.assertIs(is_cut(CUBE, aim, thing), False)
        for thing in NOTHINGS:
            self.assertIs(is_cut(PILLOW, (0, 1, 0, 1), thing), False)
        # What wants something, and has no rim: only the set of all CORNERS, told in the right form.
        self.assertIs(is_cut(PILLOW, (1, 0, 0, 0), (0, 1, 2, 3)), True)
        for thing in ((0, 1, 2, True), [0, 1, 2, 3], (3, 2, 1, 0), (0, 1, 2, 3, 3), (0, 1, 2, 3, 4), (-4, -3, -2, -1)):
            self.assertIs(is_cut(PILLOW, (1, 0, 0, 0), thing), False)


class StepRows(unittest.TestCase):
    def test_a_fourth_of_the_vanes(self):
        dice = Dice(78)
        for skin in small_spheres():
            if len(skin) < 7:
                all_of = [whirls(skin, own) for own in every_vanes(skin)]
                for aim in sorted(set(all_of)) + some_whirls(dice, skin):
                    self.assertEqual(step_rows(skin, aim) * 4, all_of.count(aim))

    def test_each_row_of_steps_is_that_of_four_vanes(self):
        for skin in [own for own in small_spheres() if len(own) < 4]:
            edges = [own for own in crossings(skin) if own < skin[own[0]][own[1]]]
            counts = {}
            for numbers in itertools.product((-1, 0, 1), repeat=len(edges)):
                rows = [[0] * 4 for _ in skin]
                for (field, side), number in zip(edges, numbers):
                    other, back = skin[field][side]
                    rows[field][side], rows[other][back] = number, -number
                around = [sum(rows[field][(side - 1) % 4] for field, side in row) + 4 - len(row)
                          for row in corner_rows(skin)]
                if all(own % 4 == 0 for own in around):
                    aim = tuple(own // 4 for own in around)
                    counts[aim] = counts.get(aim, 0) + 1
                    told = [own for own in every_vanes(skin)
                            if all(step_of(skin, own, (field, side)) == rows[field][side]
                                   for field, side in crossings(skin))]
                    self.assertEqual(sorted(own[0] for own in told), [0, 1, 2, 3])
            for aim, count in counts.items():
                self.assertEqual(step_rows(skin, aim), count)

    def test_400_and_more(self):
        self.assertEqual(step_rows(ROWS_399, WHIRLS_399), 399)
        self.assertEqual(step_rows(ROWS_400, WHIRLS_400), 400)
        self.assertRaises(TooMany, step_rows, ROWS_401, WHIRLS_401)
        self.assertRaises(TooMany, step_rows, ROWS_401, list(WHIRLS_401))
        self.assertRaises(TooMany, step_rows, ROWS_MORE, WHIRLS_MORE)

    def test_too_many_on_larger_skins(self):
        dice, seen = Dice(80), 0
        for skin in [own for own in spheres() if len(own) > 20]:
            vanes = vanes_on(skin, dice)
            if vanes is not None:
                aim = whirls(skin, vanes)
                try:
                    self.assertTrue(0 < step_rows(skin, aim) <= 400)
                except TooMany:
                    seen += 1
        self.assertGreater(seen, 3)

    def test_none_however_large(self):
        dice, seen = Dice(79), 0
        for skin in spheres():
            for aim in some_whirls(dice, skin):
                if not can_be(skin, (aim, ())):
                    seen += 1
                    self.assertEqual(step_rows(skin, aim), 0)
        self.assertGreater(seen, 30)


class Refusals(unittest.TestCase):
    def test_handles_ahead_of_whirls_and_corners(self):
        for skin in (LOOP, TWIN, WHEEL, TWIST, PAIR, torus(5, 4, 2)):
            good = (0,) * len(corner_rows(skin))
            for aim in (good, None, good + (0,)):
                self.assertRaises(Unfit, wants, skin, aim)
                self.assertRaises(Unfit, is_cut, skin, aim, (0,))
                self.assertRaises(Unfit, cut, skin, aim)
                self.assertRaises(Unfit, step_rows, skin, aim)
            for lot in ((), (0,), (-1,), (99,)):
                self.assertRaises(Unfit, rim_of, skin, lot)

    def test_no_whirls(self):
        for skin in (CONE, PILLOW, CUBE):
            for aim in [own for own in NOTHINGS if own != ()] + nearly_whirls(skin) + [(), endless()]:
                with self.subTest(skin=skin, aim=aim):
                    self.assertRaises(Unfit, wants, skin, aim)
                    self.assertRaises(Unfit, cut, skin, aim)
                    self.assertRaises(Unfit, step_rows, skin, aim)
                    for thing in ((0,), None):
                        self.assertRaises(Unfit, is_cut, skin, aim, thing)

    def test_no_skin_ahead_of_all(self):
        for skin in not_skins():
            for aim in ((0,), None):
                self.assertRaises(Unfit, wants, skin, aim)
                self.assertRaises(Unfit, is_cut, skin, aim, None)
                self.assertRaises(Unfit, cut, skin, aim)
                self.assertRaises(Unfit, step_rows, skin, aim)
            for lot in ((), (0,), (-1,)):
                self.assertRaises(Unfit, rim_of, skin, lot)


if __name__ == "__main__":
    unittest.main()
