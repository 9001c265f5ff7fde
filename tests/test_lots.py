"""Promise [15]: lots.py."""

import itertools
import unittest

from tests.aims import changed_at, nearly_wishes, plain_wish, wish_on
from tests.kinds import NOTHINGS, endless, not_skins
from tests.samples import (CUBE, Dice, LOOP, PAIR, PILLOW, TWIN, TWIST, WHEEL, all_skins, crossings, every_vanes,
                           heap_skins, many_skins, skins_with_vanes, small_skins, step_of, torus, vanes_on)
from whirlskin.corners import between, lacks
from whirlskin.errors import TooMany, Unfit
from whirlskin.lays import can_be
from whirlskin.lots import all_vanes, lot, many, place_of, vanes_at, wishes
from whirlskin.skins import edges
from whirlskin.trees import field_tree, handle_rings
from whirlskin.whirls import wish_of

# With just 396, 400, 404, 408 VANES.
VANES_396 = (((5, 1), (4, 2), (5, 2), (2, 3)), ((3, 2), (1, 2), (1, 1), (6, 1)), ((4, 0), (6, 2), (3, 1), (0, 3)),
             ((3, 3), (2, 2), (1, 0), (3, 0)), ((2, 0), (6, 0), (0, 1), (5, 3)), ((6, 3), (0, 0), (0, 2), (4, 3)),
             ((4, 1), (1, 3), (2, 1), (5, 0)))
VANES_400 = (((1, 2), (2, 2), (5, 3), (4, 2)), ((3, 0), (2, 3), (0, 0), (4, 1)), ((6, 2), (3, 3), (0, 1), (1, 1)),
             ((1, 0), (4, 3), (5, 2), (2, 1)), ((6, 3), (1, 3), (0, 3), (3, 1)), ((5, 1), (5, 0), (3, 2), (0, 2)),
             ((6, 1), (6, 0), (2, 0), (4, 0)))
VANES_404 = (((3, 0), (2, 2), (4, 2), (6, 0)), ((4, 3), (6, 1), (5, 0), (2, 3)), ((3, 3), (4, 1), (0, 1), (1, 3)),
             ((0, 0), (4, 0), (6, 3), (2, 0)), ((3, 1), (2, 1), (0, 2), (1, 0)), ((1, 2), (5, 2), (5, 1), (6, 2)),
             ((0, 3), (1, 1), (5, 3), (3, 2)))
VANES_408 = (((5, 3), (1, 3), (1, 2), (3, 3)), ((5, 2), (2, 3), (0, 2), (0, 1)), ((4, 1), (2, 2), (2, 1), (1, 1)),
             ((4, 2), (3, 2), (3, 1), (0, 3)), ((4, 3), (2, 0), (3, 0), (4, 0)), ((5, 1), (5, 0), (1, 0), (0, 0)))
# Of many more VANES, 400 and 404 have these WISHES.
LOT_400 = ((((4, 2), (3, 3), (1, 3), (2, 2)), ((6, 2), (5, 3), (7, 0), (0, 2)), ((5, 2), (4, 3), (0, 3), (8, 3)),
            ((4, 1), (5, 0), (6, 3), (0, 1)), ((5, 1), (3, 0), (0, 0), (2, 1)), ((3, 1), (4, 0), (2, 0), (1, 1)),
            ((6, 1), (6, 0), (1, 0), (3, 2)), ((1, 2), (8, 2), (7, 3), (7, 2)), ((8, 1), (8, 0), (7, 1), (2, 3))),
           ((0, 0, 0, -1, 0, -1, 1, 0, 1, 1, 1), ()))
LOT_404 = ((((4, 0), (0, 3), (2, 0), (0, 1)), ((2, 2), (3, 2), (4, 2), (6, 1)), ((0, 2), (3, 3), (1, 0), (5, 1)),
            ((5, 0), (7, 1), (1, 1), (2, 1)), ((0, 0), (5, 3), (1, 2), (7, 2)), ((3, 0), (2, 3), (6, 0), (4, 1)),
            ((5, 2), (1, 3), (6, 3), (6, 2)), ((7, 3), (3, 1), (4, 3), (7, 0))), ((-1, 0, 0, 0, 0, -1, 1, 1), (0, 1)))
# More than 400 VANES, though so many are met with just some of the SIDES, or the FIELDS, looked at.
VANES_MORE = (((0, 3), (4, 0), (2, 3), (0, 0)), ((1, 2), (6, 2), (1, 0), (6, 1)), ((4, 3), (3, 1), (3, 2), (0, 2)),
              ((5, 2), (2, 1), (2, 2), (5, 1)), ((0, 1), (5, 3), (6, 0), (2, 0)), ((6, 3), (3, 3), (3, 0), (4, 1)),
              ((4, 2), (1, 3), (1, 1), (5, 0)))
LOT_MORE = ((((2, 2), (7, 3), (4, 2), (5, 2)), ((5, 0), (1, 2), (1, 1), (3, 0)), ((4, 0), (6, 0), (0, 0), (5, 1)),
             ((1, 3), (4, 3), (9, 3), (6, 3)), ((2, 0), (5, 3), (0, 2), (3, 1)), ((1, 0), (2, 3), (0, 3), (4, 1)),
             ((2, 1), (6, 2), (6, 1), (3, 3)), ((7, 1), (7, 0), (8, 3), (0, 1)), ((10, 0), (10, 1), (9, 2), (7, 2)),
             ((9, 1), (9, 0), (8, 2), (3, 2)), ((8, 0), (8, 1), (10, 3), (10, 2))),
            ((0, -2, -1, 1, -3, 1, 1, 1, 0, 1, 1), (-4, 0)))


def few_enough():
    """Pairs of a small SKIN and all its VANES, 400 at most."""
    rows = [(skin, every_vanes(skin)) for skin in small_skins()]
    return [(skin, had) for skin, had in rows if len(had) <= 400]


def rows_that_come_to(wide, turn):
    """How many rows of so many numbers from -1 to 1 come to turn."""
    counts = {0: 1}
    for _ in range(wide):
        counts = {own: sum(counts.get(own - step, 0) for step in (-1, 0, 1))
                  for own in range(min(counts) - 1, max(counts) + 2)}
    return counts.get(turn, 0)


def gap_by_hand(skin, vanes, far):
    """The numbers on FIELDS, one with each STEP's difference; None if going round leads elsewhere."""
    def more(crossing):
        return step_of(skin, far, crossing) - step_of(skin, vanes, crossing)

    numbers = {0: (far[0] - vanes[0]) % 4}
    for field, side in field_tree(skin):
        numbers[skin[field][side][0]] = numbers[field] + more((field, side))
    if all(numbers[skin[field][side][0]] - numbers[field] == more((field, side)) for field, side in crossings(skin)):
        return [numbers[own] for own in range(len(skin))]
    return None


class AllVanes(unittest.TestCase):
    def test_all_are_told_ascending(self):
        seen = 0
        for skin, had in few_enough():
            seen += 1
            self.assertEqual(all_vanes(skin), had)
            self.assertEqual(len(had) % 4, 0)
        self.assertGreater(seen, 30)
        for skin in all_skins(1) + all_skins(2):
            self.assertEqual(all_vanes(skin), every_vanes(skin))

    def test_400_and_more(self):
        for skin, count in ((VANES_396, 396), (VANES_400, 400)):
            had = every_vanes(skin)
            self.assertEqual(len(had), count)
            self.assertEqual(all_vanes(skin), had)
            self.assertEqual(wishes(skin), sorted({wish_of(skin, own) for own in had}))
            self.assertEqual((place_of(skin, had[-1]), vanes_at(skin, count - 1)), (count - 1, had[-1]))
            self.assertEqual(lot(skin, wish_of(skin, had[7])),
                             [own for own in had if wish_of(skin, own) == wish_of(skin, had[7])])
        for skin, count in ((VANES_404, 404), (VANES_408, 408), (VANES_MORE, 864)):
            had = every_vanes(skin)
            self.assertEqual(len(had), count)
            for call in (lambda: all_vanes(skin), lambda: wishes(skin), lambda: lot(skin, wish_of(skin, had[0])),
                         lambda: place_of(skin, had[0]), lambda: vanes_at(skin, 0)):
                self.assertRaises(TooMany, call)

    def test_too_many_on_larger_skins(self):
        dice, seen = Dice(80), 0
        for skin in many_skins() + heap_skins():
            if len(skin) < 9:
                continue
            seen += 1
            self.assertRaises(TooMany, all_vanes, skin)
            self.assertRaises(TooMany, wishes, skin)
            self.assertRaises(TooMany, lot, skin, wish_on(dice, skin, 1))
            self.assertRaises(TooMany, lot, skin, (plain_wish(skin)[0], tuple(9 for _ in handle_rings(skin))))
            self.assertRaises(TooMany, vanes_at, skin, 0)
            vanes = vanes_on(skin, dice)
            if vanes is not None:
                self.assertRaises(TooMany, place_of, skin, vanes)
        self.assertGreater(seen, 30)


class Lots(unittest.TestCase):
    def test_each_vanes_in_just_one_lot(self):
        for skin, had in few_enough():
            told = wishes(skin)
            self.assertEqual(told, sorted({wish_of(skin, own) for own in had}))
            lots = [lot(skin, wish) for wish in told]
            for wish, rows in zip(told, lots):
                self.assertEqual(rows, [own for own in had if wish_of(skin, own) == wish])
                self.assertEqual(many(skin, wish), len(rows))
                self.assertEqual(len(rows) % 4, 0)
            self.assertEqual(sorted(own for rows in lots for own in rows), had)

    def test_of_one_lot_exactly_if_they_have_a_gap(self):
        for skin, had in few_enough():
            some = had[::len(had) // 12 + 1]
            for one, two in itertools.product(some, some):
                gap = gap_by_hand(skin, one, two)
                self.assertIs(gap is not None, wish_of(skin, one) == wish_of(skin, two))
                if gap is not None:
                    self.assertEqual(tuple((own + number) % 4 for own, number in zip(one, gap)), two)

    def test_without_any(self):
        dice, seen = Dice(81), 0
        for skin, had in few_enough():
            wish = wish_on(dice, skin, 1)
            barred = changed_at(wish[0], 0, wish[0][0] + 1), wish[1]
            odd = wish[0], tuple(own + 1 for own in wish[1])
            for own in (wish, barred) + ((odd,) if wish[1] else ()):
                if own not in [wish_of(skin, vanes) for vanes in had]:
                    seen += 1
                    self.assertEqual((lot(skin, own), many(skin, own)), ([], 0))
        self.assertGreater(seen, 30)

    def test_one_cube(self):
        told = wishes(CUBE)
        self.assertEqual((len(all_vanes(CUBE)), len(told)), (192, 16))
        joined = [set(between(CUBE, edge)) for edge in edges(CUBE)]
        aims = set()
        for one, two in itertools.combinations(range(8), 2):
            if {one, two} not in joined:
                aims.add((changed_at(changed_at((0,) * 8, one, 1), two, 1), ()))
        self.assertEqual(told, sorted(aims))
        self.assertEqual([many(CUBE, own) for own in told], [12] * 16)


class Many(unittest.TestCase):
    def test_belts(self):
        for wide in (1, 2, 3, 5, 6, 8, 12, 20, 39, 40):
            skin = torus(wide, 1, 0)
            long = max(range(2), key=lambda number: len(handle_rings(skin)[number]))
            for turn in range(-44, 45, 4):
                wish = (0,) * wide, changed_at((0, 0), long, turn)
                count = 4 * rows_that_come_to(wide, turn)
                if count > 400:
                    self.assertRaises(TooMany, many, skin, wish)
                else:
                    self.assertEqual(many(skin, wish), count)

    def test_400_and_more(self):
        skin, wish = LOT_400
        self.assertRaises(TooMany, all_vanes, skin)
        self.assertEqual(many(skin, wish), 400)
        self.assertEqual(many(skin, [list(own) for own in wish]), 400)
        self.assertRaises(TooMany, many, *LOT_404)
        self.assertRaises(TooMany, many, *LOT_MORE)

    def test_none_however_many_vanes_there_are(self):
        dice, seen = Dice(82), 0
        for skin in many_skins() + heap_skins():
            for _ in range(2):
                wish = wish_on(dice, skin, 2)
                if not can_be(skin, wish):
                    seen += 1
                    self.assertEqual(many(skin, wish), 0)
            self.assertEqual(many(skin, (changed_at(wish[0], 0, wish[0][0] + 1), wish[1])), 0)
        self.assertGreater(seen, 40)

    def test_of_vanes_of_many_skins(self):
        few = 0
        for skin, vanes in skins_with_vanes():
            try:
                told = many(skin, wish_of(skin, vanes))
            except TooMany:
                continue
            few += 1
            self.assertTrue(0 < told <= 400 and told % 4 == 0)
        self.assertGreater(few, 30)


class Places(unittest.TestCase):
    def test_there_and_back(self):
        for skin, had in few_enough():
            for place, own in enumerate(had):
                if place % 7 == 0 or place > len(had) - 3:
                    self.assertEqual(place_of(skin, own), place)
                    self.assertEqual(place_of(skin, list(own)), place)
                    self.assertEqual(vanes_at(skin, place), own)

    def test_no_such_number(self):
        for skin, had in few_enough()[::3]:
            for number in (-1, -len(had), len(had), len(had) + 1, 10 ** 6, -10 ** 6):
                self.assertRaises(Unfit, vanes_at, skin, number)

    def test_too_many_ahead_of_no_such_number(self):
        for number in (-1, 0, 404, 10 ** 6):
            self.assertRaises(TooMany, vanes_at, VANES_404, number)


class Refusals(unittest.TestCase):
    def test_no_wish(self):
        for skin in (LOOP, PILLOW, PAIR, TWIST, torus(6, 1, 0)):
            for wish in nearly_wishes(skin) + [endless()]:
                with self.subTest(skin=skin, wish=wish):
                    self.assertRaises(Unfit, lot, skin, wish)
                    self.assertRaises(Unfit, many, skin, wish)

    def test_no_vanes_ahead_of_too_many(self):
        for skin in (TWIN, WHEEL, VANES_404):
            bad = [(0,), (0,) * len(skin) + (0,), "0" * len(skin)]
            bad += [(own,) * len(skin) for own in (4, -1, True, None, "0", (0,))]
            for vanes in NOTHINGS + bad + [endless(), ((0,) * len(skin),)]:
                with self.subTest(skin=skin, vanes=vanes):
                    self.assertRaises(Unfit, place_of, skin, vanes)
        self.assertRaises(Unfit, place_of, TWIN, (0, 2))
        self.assertEqual(len(lacks(TWIN)), 2)

    def test_no_skin_ahead_of_all(self):
        for skin in not_skins():
            self.assertRaises(Unfit, all_vanes, skin)
            self.assertRaises(Unfit, wishes, skin)
            for wish in (((0,), (0, 0)), None):
                self.assertRaises(Unfit, lot, skin, wish)
                self.assertRaises(Unfit, many, skin, wish)
            for vanes in ((0,), None):
                self.assertRaises(Unfit, place_of, skin, vanes)
            for number in (0, -1):
                self.assertRaises(Unfit, vanes_at, skin, number)

    def test_a_list_that_is_changed_changes_no_later_answer(self):
        for call in (lambda: all_vanes(TWIN), lambda: wishes(PILLOW), lambda: lot(PILLOW, ((1, 0, 1, 0), ()))):
            told = call()
            kept = list(told)
            told.clear()
            self.assertEqual(call(), kept)


if __name__ == "__main__":
    unittest.main()
