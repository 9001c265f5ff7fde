"""Promise [12]: wishes.py."""

import itertools
import unittest

from tests.aims import changed_at, nearly_wishes, plain_wish, turnings_on, whirls_on, wish_on
from tests.kinds import NOTHINGS, endless, not_skins
from tests.samples import (CONE, CUBE, Dice, LOOP, NAMED, PAIR, PILLOW, TWIN, TWIST, WHEEL, all_skins, corner_rows,
                           crossings, heap_skins, many_skins, ring_on, rings_on, skins_with_vanes, step_of, torus)
from whirlskin.corners import x_of
from whirlskin.errors import CanNot, Unfit
from whirlskin.rings import corner_ring, gone_back, put_behind, rest
from whirlskin.trees import handle_rings
from whirlskin.vanes import steps, turning
from whirlskin.whirls import whirls, wish_of
from whirlskin.wishes import asked, bars_first, fits, is_wish, wide_steps

NOT_RINGS = NOTHINGS + [((0, 0),), ((0, 1), (0, 1)), ((1, 1), (1, 0)), ((2, 0),), ((0, 4),), endless()]


def good_skins():
    return many_skins() + heap_skins()


def wishes_on(dice, skin):
    """WISHES that neither the sum nor a REST bars, small and great."""
    return [wish_on(dice, skin, spread) for spread in (0, 1, 2, 10 ** 5)]


def total(rows, ring):
    return sum(rows[field][side] for field, side in ring)


def bar_by_hand(skin, wish):
    if sum(wish[0]) != x_of(skin):
        return ("sum",)
    for number, ring in enumerate(handle_rings(skin)):
        if (wish[1][number] + rest(skin, ring)) % 4:
            return ("rest", number)
    return None


def fits_by_hand(skin, wish, rows):
    """Whether rows of four numbers fit, by their words: all SIDES are tried out."""
    for field, side in crossings(skin):
        other, back = skin[field][side]
        if rows[field][side] + rows[other][back] != 0:
            return False
    own = tuple((total(rows, corner_ring(skin, corner)) + 4 - len(row), 4 * whirl)
                for corner, (row, whirl) in enumerate(zip(corner_rows(skin), wish[0])))
    if any(told != wanted for told, wanted in own):
        return False
    if any(total(rows, ring) != turn for ring, turn in zip(handle_rings(skin), wish[1])):
        return False
    return any(all((step_of(skin, sides, (field, side)) - rows[field][side]) % 4 == 0
                   for field, side in crossings(skin))
               for sides in itertools.product(range(4), repeat=len(skin)))


def with_step(skin, rows, crossing, number):
    """rows with number more over crossing, less over its contrary."""
    told = [list(row) for row in rows]
    other, back = skin[crossing[0]][crossing[1]]
    told[crossing[0]][crossing[1]] += number
    told[other][back] -= number
    return tuple(tuple(row) for row in told)


def lifted(skin, rows, numbers):
    """rows, more by the number of the FIELD led to, less by that of the FIELD led from."""
    return tuple(tuple(rows[field][side] + numbers[skin[field][side][0]] - numbers[field] for side in range(4))
                 for field in range(len(skin)))


class IsWish(unittest.TestCase):
    def test_wishes(self):
        dice = Dice(40)
        for skin in good_skins():
            for wish in wishes_on(dice, skin) + [plain_wish(skin)]:
                self.assertIs(is_wish(skin, wish), True)
                self.assertIs(is_wish(skin, list(wish)), False)
                self.assertIs(is_wish(skin, (list(wish[0]), wish[1])), False)
                self.assertIs(is_wish(skin, (wish[0], list(wish[1]))), False)
            beyond = tuple(10 ** 40 for _ in wish[0]), tuple(-10 ** 40 for _ in wish[1])
            self.assertIs(is_wish(skin, beyond), True)

    def test_of_vanes(self):
        for skin, vanes in skins_with_vanes():
            self.assertIs(is_wish(skin, wish_of(skin, vanes)), True)
            self.assertIs(bars_first(skin, wish_of(skin, vanes)), None)

    def test_things_of_any_kind(self):
        for skin in (LOOP, CONE, TWIN, PILLOW, PAIR, CUBE, TWIST):
            for thing in nearly_wishes(skin) + [endless()]:
                with self.subTest(skin=skin, thing=thing):
                    self.assertIs(is_wish(skin, thing), False)

    def test_no_skin_whatever_the_thing_is(self):
        for skin in not_skins():
            for thing in (((0,), (0, 0)), None, ()):
                self.assertRaises(Unfit, is_wish, skin, thing)


class BarsFirst(unittest.TestCase):
    def test_by_hand(self):
        dice, seen = Dice(41), {}
        for skin in good_skins():
            many = len(handle_rings(skin))
            for _ in range(6):
                turns = [turnings_on(dice, skin, 2), tuple(dice.below(9) - 4 for _ in range(many))]
                sums = [whirls_on(dice, skin, 2), tuple(dice.below(3) for _ in corner_rows(skin))]
                for wish in itertools.product(sums, turns):
                    told = bars_first(skin, wish)
                    self.assertEqual(told, bar_by_hand(skin, wish))
                    seen[told and told[0]] = seen.get(told and told[0], 0) + 1
        self.assertGreater(min(seen["sum"], seen["rest"], seen[None]), 20)

    def test_the_least_number_that_bars(self):
        dice = Dice(42)
        for skin in good_skins():
            wish = wish_on(dice, skin, 1)
            for one in range(min(len(wish[1]), 9)):
                for two in range(len(wish[1])):
                    turns = changed_at(wish[1], one, wish[1][one] + 1 + dice.below(3))
                    turns = changed_at(turns, two, turns[two] + (4 if one == two else 2))
                    self.assertEqual(bars_first(skin, (wish[0], turns)), ("rest", min(one, two)))

    def test_the_sum_ahead_of_a_rest(self):
        self.assertEqual(bars_first(LOOP, ((1,), (1, 1))), ("sum",))
        self.assertEqual(bars_first(TWIST, ((0, 1), (0, 0))), ("sum",))
        self.assertEqual(bars_first(TWIST, ((0, 0), (0, 0))), ("rest", 0))
        self.assertEqual(bars_first(TWIST, ((0, 0), (1, 0))), ("rest", 1))
        for skin in good_skins():
            whirls_too_many = changed_at(plain_wish(skin)[0], 0, x_of(skin) + 1)
            self.assertEqual(bars_first(skin, (whirls_too_many, plain_wish(skin)[1])), ("sum",))
            self.assertEqual(bars_first(skin, (whirls_too_many, tuple(1 for _ in handle_rings(skin)))), ("sum",))


class WideSteps(unittest.TestCase):
    def test_they_fit(self):
        dice = Dice(43)
        for skin in good_skins():
            for wish in wishes_on(dice, skin):
                rows = wide_steps(skin, wish)
                self.assertIs(fits(skin, wish, rows), True)
                for corner, row in enumerate(corner_rows(skin)):
                    self.assertEqual(total(rows, corner_ring(skin, corner)), 4 * wish[0][corner] + len(row) - 4)
                for ring, turn in zip(handle_rings(skin), wish[1]):
                    self.assertEqual(total(rows, ring), turn)
                for field, side in crossings(skin):
                    other, back = skin[field][side]
                    self.assertEqual(rows[field][side] + rows[other][back], 0)

    def test_they_fit_by_hand(self):
        dice = Dice(44)
        for skin in list(NAMED[:8]) + all_skins(1) + all_skins(2)[::6]:
            for wish in wishes_on(dice, skin):
                self.assertTrue(fits_by_hand(skin, wish, wide_steps(skin, wish)))

    def test_there_are_some_exactly_if_nothing_bars_first(self):
        dice = Dice(45)
        for skin in good_skins():
            good = wish_on(dice, skin, 1)
            bad = [(changed_at(good[0], dice.below(len(good[0])), 77), good[1])]
            if good[1]:
                at = dice.below(len(good[1]))
                bad += [(good[0], changed_at(good[1], at, good[1][at] + own)) for own in (1, 2, 3, -1)]
            for wish in bad:
                self.assertIsNotNone(bars_first(skin, wish))
                self.assertRaises(CanNot, wide_steps, skin, wish)
                self.assertIs(fits(skin, wish, wide_steps(skin, good)), False)

    def test_by_all_small_rows_they_are_there_or_not(self):
        # One FIELD has two EDGES: all WIDE STEPS with small numbers are tried out against all small WISHES.
        for skin in all_skins(1):
            edges = [own for own in crossings(skin) if own < skin[own[0]][own[1]]]
            found = set()
            for numbers in itertools.product(range(-4, 5), repeat=2):
                rows = ((0, 0, 0, 0),)
                for edge, number in zip(edges, numbers):
                    rows = with_step(skin, rows, edge, number)
                sums = [total(rows, corner_ring(skin, own)) + 4 - len(row) for own, row in enumerate(corner_rows(skin))]
                wish = tuple(own // 4 for own in sums), tuple(total(rows, ring) for ring in handle_rings(skin))
                good = fits(skin, wish, rows)
                self.assertEqual(good, fits_by_hand(skin, wish, rows))
                if good:
                    found.add(wish)
                    self.assertIsNone(bars_first(skin, wish))
            self.assertGreater(len(found), 2)


class Fits(unittest.TestCase):
    def test_steps_of_vanes(self):
        for skin, vanes in skins_with_vanes():
            self.assertIs(fits(skin, wish_of(skin, vanes), steps(skin, vanes)), True)

    def test_lifted_they_fit_still(self):
        dice = Dice(46)
        for skin in good_skins():
            for wish in wishes_on(dice, skin):
                for spread in (1, 4, 10 ** 20):
                    numbers = [dice.below(2 * spread + 1) - spread for _ in skin]
                    self.assertIs(fits(skin, wish, lifted(skin, wide_steps(skin, wish), numbers)), True)

    def test_one_edge_changed_they_fit_no_more(self):
        dice = Dice(47)
        for skin in good_skins():
            wish = wish_on(dice, skin, 2)
            rows = wide_steps(skin, wish)
            for crossing in crossings(skin)[:16]:
                for number in (1, -1, 2, 4, -8):
                    changed = with_step(skin, rows, crossing, number)
                    self.assertIs(fits(skin, wish, changed), False)
                    self.assertFalse(len(skin) < 3 and fits_by_hand(skin, wish, changed))

    def test_another_turning_alone(self):
        dice, seen = Dice(48), 0
        for skin in good_skins():
            wish = wish_on(dice, skin, 1)
            for at in range(len(wish[1])):
                other = wish[0], changed_at(wish[1], at, wish[1][at] + 4)
                seen += 1
                self.assertIs(fits(skin, other, wide_steps(skin, wish)), False)
                self.assertIs(fits(skin, other, wide_steps(skin, other)), True)
        self.assertGreater(seen, 50)

    def test_other_whirls_alone(self):
        dice = Dice(49)
        for skin in good_skins():
            wish = wish_on(dice, skin, 1)
            if len(wish[0]) > 1:
                for at in range(1, len(wish[0])):
                    moved = changed_at(changed_at(wish[0], 0, wish[0][0] + 1), at, wish[0][at] - 1)
                    self.assertIs(fits(skin, (moved, wish[1]), wide_steps(skin, wish)), False)

    def test_not_by_four(self):
        # Sums that no SIDES have: what they come to is right, but by four they are no STEPS.
        self.assertIs(fits(LOOP, ((0,), (1, 0)), ((1, 0, -1, 0),)), False)
        self.assertIs(fits(LOOP, ((0,), (2, 6)), ((2, 6, -2, -6),)), False)
        self.assertIs(fits(LOOP, ((0,), (8, -4)), ((8, -4, -8, 4),)), True)

    def test_contraries_that_do_not_add_up_to_0(self):
        self.assertIs(fits(LOOP, ((0,), (4, 0)), ((4, 0, 4, 0),)), False)
        self.assertIs(fits(LOOP, ((0,), (4, 0)), ((4, 0, 0, 0),)), False)
        for skin in good_skins():
            wish = wish_on(Dice(50), skin, 1)
            rows = wide_steps(skin, wish)
            for field, side in crossings(skin)[:24]:
                for number in (4, -4, 1):
                    told = changed_at(rows, field, changed_at(rows[field], side, rows[field][side] + number))
                    self.assertIs(fits(skin, wish, told), False)

    def test_contraries_that_do_not_add_up_to_0_though_all_sums_are_right(self):
        self.assertIs(fits(LOOP, ((0,), (4, 0)), ((4, 0, 0, -4),)), False)
        self.assertIs(fits(LOOP, ((0,), (4, -4)), ((4, -4, 4, -4),)), False)
        seen = 0
        for skin in good_skins():
            wish = wish_on(Dice(56), skin, 1)
            rows = wide_steps(skin, wish)
            asked_of = {own for ring in handle_rings(skin) for own in ring}
            for corner in range(len(wish[0])):
                free = [own for own in corner_ring(skin, corner) if own not in asked_of]
                if len(free) > 1:
                    told = rows
                    for (field, side), number in zip(free, (4, -4)):
                        told = changed_at(told, field, changed_at(told[field], side, told[field][side] + number))
                    seen += 1
                    self.assertIs(fits(skin, wish, told), False)
        self.assertGreater(seen, 200)

    def test_things_of_any_kind(self):
        for skin, wish in ((LOOP, ((0,), (0, 0))), (PILLOW, ((1, 0, 1, 0), ())), (TWIN, ((0, 0), (0, 0)))):
            rows = wide_steps(skin, wish)
            bad = [rows + rows[:1], rows[:-1], rows * 2, rows[0], (rows,), list(rows), tuple(list(row) for row in rows),
                   changed_at(rows, 0, rows[0] + (0,)), changed_at(rows, 0, rows[0][:3]), changed_at(rows, 0, ()),
                   changed_at(rows, 0, None), changed_at(rows, 0, 0), changed_at(rows, 0, "0000"), endless(),
                   dict(enumerate(rows)), (), wish]
            bad += [changed_at(rows, 0, changed_at(rows[0], at, own)) for at in (0, 3)
                    for own in (None, True, False, "0", (), (0,), 10 ** 30, 0.0)]
            self.assertIs(fits(skin, wish, rows), True)
            for thing in NOTHINGS + bad:
                with self.subTest(skin=skin, thing=thing):
                    self.assertIs(fits(skin, wish, thing), False)

    def test_a_barred_wish_has_none(self):
        for rows in (((0, 0, 0, 0),), ((1, 0, -1, 0),), ((4, 4, -4, -4),)):
            self.assertIs(fits(LOOP, ((1,), (0, 0)), rows), False)
            self.assertIs(fits(LOOP, ((0,), (1, 0)), rows), False)


class Asked(unittest.TestCase):
    def test_by_whatever_rows_fit(self):
        dice = Dice(51)
        for skin in good_skins():
            for wish in wishes_on(dice, skin)[1:]:
                rows = lifted(skin, wide_steps(skin, wish), [dice.below(99) for _ in skin])
                for ring in rings_on(skin, dice)[:4]:
                    told = asked(skin, wish, ring)
                    self.assertEqual(told, total(rows, ring))
                    self.assertEqual(asked(skin, wish, gone_back(skin, ring)), -told)
                    self.assertEqual((told + rest(skin, ring)) % 4, 0)

    def test_by_vanes(self):
        dice = Dice(52)
        for skin, vanes in skins_with_vanes():
            wish = wish_of(skin, vanes)
            for ring in rings_on(skin, dice)[:3]:
                self.assertEqual(asked(skin, wish, ring), turning(skin, vanes, ring))

    def test_put_behind(self):
        dice = Dice(53)
        for skin in good_skins():
            wish = wish_on(dice, skin, 3)
            one, two = ring_on(skin, dice, 0, 2), ring_on(skin, dice, 0, 3)
            both = asked(skin, wish, put_behind(skin, one, two))
            self.assertEqual(both, asked(skin, wish, one) + asked(skin, wish, two))

    def test_round_corners_and_handles(self):
        dice = Dice(54)
        for skin in good_skins():
            wish = wish_on(dice, skin, 9)
            for corner, row in list(enumerate(corner_rows(skin)))[:12]:
                self.assertEqual(asked(skin, wish, corner_ring(skin, corner)), 4 * wish[0][corner] + len(row) - 4)
            for ring, turn in list(zip(handle_rings(skin), wish[1]))[:12]:
                self.assertEqual(asked(skin, wish, ring), turn)

    def test_a_ring_round_many_corners(self):
        # Round a row of a torus: between two rows along it lie CORNERS of LACK 0; their whirls are asked for between.
        skin = torus(5, 4, 0)
        wish = (1,) + (0,) * 18 + (-1,), (0,) * len(handle_rings(skin))
        rows = [tuple((y * 5 + x, 0) for x in range(5)) for y in range(4)]
        told = [asked(skin, wish, ring) for ring in rows]
        at = {pair: number for number, row in enumerate(corner_rows(skin)) for pair in row}
        for y in range(4):
            between = {at[field, 1] for field, _ in rows[y]}
            self.assertEqual(told[y] - told[(y + 1) % 4], 4 * sum(wish[0][own] for own in between))

    def test_can_not(self):
        dice = Dice(55)
        for skin in good_skins():
            ring = ring_on(skin, dice, 0, 1)
            whirls_too_many = changed_at(plain_wish(skin)[0], 0, x_of(skin) + 1), plain_wish(skin)[1]
            self.assertRaises(CanNot, asked, skin, whirls_too_many, ring)
            wish = wish_on(dice, skin, 1)
            for at in range(min(len(wish[1]), 5)):
                self.assertRaises(CanNot, asked, skin, (wish[0], changed_at(wish[1], at, wish[1][at] + 2)), ring)


class Refusals(unittest.TestCase):
    def test_no_wish(self):
        for skin, ring in ((LOOP, ((0, 1),)), (PILLOW, ((0, 0), (1, 2))), (PAIR, ((0, 0), (1, 3))),
                           (TWIST, ((0, 0), (1, 1)))):
            for wish in nearly_wishes(skin) + [endless()]:
                with self.subTest(skin=skin, wish=wish):
                    self.assertRaises(Unfit, bars_first, skin, wish)
                    self.assertRaises(Unfit, wide_steps, skin, wish)
                    self.assertRaises(Unfit, fits, skin, wish, None)
                    self.assertRaises(Unfit, asked, skin, wish, ring)
                    self.assertRaises(Unfit, asked, skin, wish, None)

    def test_no_ring_ahead_of_can_not(self):
        for ring in NOT_RINGS:
            for wish in (((0, 0), (0, 0)), ((1, 1), (0, 0)), ((0, 0), (1, 0))):
                with self.subTest(ring=ring, wish=wish):
                    self.assertRaises(Unfit, asked, WHEEL, wish, ring)
        self.assertRaises(CanNot, asked, WHEEL, ((1, 1), (0, 0)), ((0, 0), (1, 0)))

    def test_no_skin_ahead_of_all(self):
        for skin in not_skins():
            for wish in (((0,), (0, 0)), None):
                self.assertRaises(Unfit, bars_first, skin, wish)
                self.assertRaises(Unfit, wide_steps, skin, wish)
                self.assertRaises(Unfit, fits, skin, wish, None)
                self.assertRaises(Unfit, asked, skin, wish, ((0, 0),))

    def test_lists_for_a_wish(self):
        for skin, vanes in skins_with_vanes()[::9]:
            wish = wish_of(skin, vanes)
            given = [list(wish[0]), list(wish[1])]
            self.assertEqual(bars_first(skin, given), bars_first(skin, wish))
            self.assertEqual(wide_steps(skin, given), wide_steps(skin, wish))
            self.assertIs(fits(skin, given, wide_steps(skin, given)), True)
            self.assertEqual(given, [list(whirls(skin, vanes)), list(wish[1])])


if __name__ == "__main__":
    unittest.main()
