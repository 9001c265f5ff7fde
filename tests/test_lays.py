"""Promise [13]: lays.py."""

import itertools
import unittest

from tests.aims import changed_at, nearly_whirls, nearly_wishes, plain_wish, turnings_on, whirls_on, wish_on
from tests.kinds import NOTHINGS, endless, not_skins
from tests.samples import (CONE, CUBE, Dice, LOOP, PAIR, PILLOW, TWIN, TWIST, WHEEL, crossings, every_vanes, grown_skin,
                           heap_skins, many_skins, ring_on, skins_with_vanes, small_skins, torus)
from whirlskin.corners import lacks, x_of
from whirlskin.errors import CanNot, Unfit
from whirlskin.lays import bar, can_be, is_bar, lay, turnings_between
from whirlskin.rings import asked_most, gone_back, is_ring, put_behind, rest
from whirlskin.trees import handle_rings, handles
from whirlskin.vanes import are_vanes
from whirlskin.whirls import least_whirl, wish_of
from whirlskin.wishes import asked, bars_first

NO_BARS = NOTHINGS + [
    ("sum", 0), ("sum", None), "sum", ["sum"], ("Sum",), ("rest",), ("rest", "0"), ("rest", None), ("rest", True),
    ("rest", False), ("rest", (0,)), ("rest", -1), ("rest", -2), ("rest", 10 ** 30), ("rest", 0, 0), ("rest", ()),
    ("ring",), ("ring", None), ("ring", 0), ("ring", ()), ("ring", "0.0"), ("ring", ((0, 0), (0, 4))),
    ("ring", ((0,),)), ("ring", (0, 0)), ("ring", ((9, 0),)), (("ring",), ((0, 0),)), ("round", ((0, 0),)), (0, 0), (None, 0), ("", 0),
    ("ring", ((0, True),)), ("ring", (None,)), endless(), ("ring", endless()), ("rest", endless()), (True, 0),
]


def wishes_near(skin, most=1500):
    """WISHES whose numbers are as far as they can be, or farther by one or four."""
    lows = [range(least_whirl(skin, own) - 1, 3) for own in range(len(lacks(skin)))]
    turns = []
    for ring in handle_rings(skin):
        turns.append([own for own in range(-len(ring) - 4, len(ring) + 5) if (own + rest(skin, ring)) % 4 == 0])
    wanted = x_of(skin)
    whirls = [own for own in itertools.product(*lows) if sum(own) == wanted]
    rows = list(itertools.product(whirls, itertools.product(*turns)))
    return rows[::len(rows) // most + 1]


def is_ring_that_bars(skin, wish, told):
    """Whether told is a ("ring", ring) that bars, by the words of BARS."""
    return told[0] == "ring" and is_ring(skin, told[1]) and abs(asked(skin, wish, told[1])) > len(told[1])


class CanBe(unittest.TestCase):
    def test_beside_all_vanes(self):
        seen = {True: 0, False: 0}
        for skin in small_skins():
            had = {wish_of(skin, vanes) for vanes in every_vanes(skin)}
            near = wishes_near(skin, 300)
            for wish in near + sorted(had)[:100]:
                good = wish in had
                seen[good] += 1
                self.assertIs(can_be(skin, wish), good)
                if good:
                    self.assertEqual(wish_of(skin, lay(skin, wish)), wish)
                    self.assertRaises(CanNot, bar, skin, wish)
                else:
                    self.assertRaises(CanNot, lay, skin, wish)
                    told = bar(skin, wish)
                    self.assertTrue(is_ring_that_bars(skin, wish, told))
                    self.assertIs(is_bar(skin, wish, told), True)
        self.assertGreater(seen[True], 100)
        self.assertGreater(seen[False], 4000)

    def test_all_rings_of_small_skins(self):
        # Without VANES some RING bars; with VANES none does, whichever RINGS are gone.
        dice = Dice(60)
        for skin in small_skins(3):
            had = {wish_of(skin, vanes) for vanes in every_vanes(skin)}
            rings = [ring_on(skin, dice, 0, least) for least in (1, 1, 2, 2, 3, 4)]
            for wish in wishes_near(skin, 60):
                for ring in rings:
                    bars = abs(asked(skin, wish, ring)) > asked_most(ring)
                    self.assertIs(is_bar(skin, wish, ("ring", ring)), bars)
                    self.assertFalse(bars and wish in had)

    def test_of_vanes_of_many_skins(self):
        for skin, vanes in skins_with_vanes():
            wish = wish_of(skin, vanes)
            self.assertIs(can_be(skin, wish), True)
            told = lay(skin, wish)
            self.assertIs(are_vanes(skin, told), True)
            self.assertEqual(wish_of(skin, told), wish)
            self.assertRaises(CanNot, bar, skin, wish)

    def test_whatever_is_told_is_so_on_larger_skins(self):
        dice, seen = Dice(61), {True: 0, False: 0}
        for skin in many_skins() + heap_skins():
            for spread in (0, 0, 1, 1, 5):
                wish = wish_on(dice, skin, spread)
                seen[self.look_at(skin, wish)] += 1
        self.assertGreater(min(seen.values()), 30)

    def test_close_to_vanes_on_larger_skins(self):
        # One whirl more here, one less there: some of these WISHES can be just so, some just not.
        dice, seen = Dice(62), {True: 0, False: 0}
        for skin, vanes in skins_with_vanes():
            whirls, turnings = wish_of(skin, vanes)
            for _ in range(3):
                one, two = dice.below(len(whirls)), dice.below(len(whirls))
                other = changed_at(whirls, one, whirls[one] + 1)
                other = changed_at(other, two, other[two] - 1)
                turns = turnings
                if turnings and dice.below(2):
                    at = dice.below(len(turnings))
                    turns = changed_at(turnings, at, turnings[at] + 8 * dice.below(2) - 4)
                seen[self.look_at(skin, (other, turns))] += 1
        self.assertGreater(min(seen.values()), 30)

    def look_at(self, skin, wish):
        good = can_be(skin, wish)
        if good:
            told = lay(skin, wish)
            self.assertIs(are_vanes(skin, told), True)
            self.assertEqual(wish_of(skin, told), wish)
            self.assertRaises(CanNot, bar, skin, wish)
        else:
            self.assertRaises(CanNot, lay, skin, wish)
            told = bar(skin, wish)
            self.assertTrue(is_ring_that_bars(skin, wish, told))
            self.assertIs(is_bar(skin, wish, told), True)
            fields = [field for field, _ in told[1]]
            self.assertEqual(len(set(fields)), len(fields))
        return good

    def test_numbers_far_out(self):
        far = 10 ** 6
        for skin in (CUBE, PILLOW, TWIST, torus(8, 5, 3)):
            whirls = [0] * len(lacks(skin))
            whirls[0], whirls[-1] = far, x_of(skin) - far
            wish = tuple(whirls), turnings_on(Dice(63), skin, 1)
            self.assertIs(self.look_at(skin, wish), False)
        self.assertIs(self.look_at(LOOP, ((0,), (-10 ** 6, 0))), False)
        self.assertIs(self.look_at(TWIST, ((0, 0), (10 ** 6 + 1, -10 ** 6 + 1))), False)


class Bars(unittest.TestCase):
    def test_the_sum_and_rests_come_first(self):
        dice, seen = Dice(64), {}
        for skin in many_skins() + heap_skins()[:4]:
            for _ in range(4):
                whirls, turns = wish_on(dice, skin, 1)
                if dice.below(3) == 0:
                    whirls = changed_at(whirls, 0, whirls[0] + 1 + dice.below(3))
                for at in range(len(turns)):
                    if dice.below(6) == 0:
                        turns = changed_at(turns, at, turns[at] + 1 + dice.below(3))
                first = bars_first(skin, (whirls, turns))
                seen[first and first[0]] = seen.get(first and first[0], 0) + 1
                if first is not None:
                    self.assertIs(can_be(skin, (whirls, turns)), False)
                    self.assertRaises(CanNot, lay, skin, (whirls, turns))
                    self.assertEqual(bar(skin, (whirls, turns)), first)
                    self.assertIs(is_bar(skin, (whirls, turns), first), True)
                    ring = ring_on(skin, dice, 0, 1)
                    self.assertIs(is_bar(skin, (whirls, turns), ("ring", ring)), False)
        self.assertGreater(min(seen["sum"], seen["rest"]), 20)

    def test_each_rest_that_bars_whether_the_sum_bars_or_not(self):
        dice = Dice(65)
        for skin in many_skins():
            wish = wish_on(dice, skin, 1)
            turns = tuple(own + dice.below(2) * (1 + dice.below(3)) for own in wish[1])
            for whirls in (wish[0], changed_at(wish[0], 0, wish[0][0] + 1)):
                self.assertIs(is_bar(skin, (whirls, turns), ("sum",)), whirls != wish[0])
                for number, ring in enumerate(handle_rings(skin)):
                    bars = (turns[number] + rest(skin, ring)) % 4 != 0
                    self.assertIs(is_bar(skin, (whirls, turns), ("rest", number)), bars)
                for number in (-1, len(turns), len(turns) + 7, -len(turns) - 1):
                    self.assertIs(is_bar(skin, (whirls, turns), ("rest", number)), False)

    def test_rings_that_bar_in_other_words(self):
        dice, seen = Dice(66), 0
        for skin in many_skins() + heap_skins():
            wish = wish_on(dice, skin, 2)
            if can_be(skin, wish):
                continue
            seen += 1
            ring = bar(skin, wish)[1]
            back = gone_back(skin, ring)
            for own in (ring, back, ring + ring, back * 3, ring[1:] + ring[:1], ring[-1:] + ring[:-1]):
                self.assertIs(is_bar(skin, wish, ("ring", own)), True)
                self.assertIs(is_bar(skin, wish, ("ring", list(own))), False)
                self.assertIs(is_bar(skin, wish, ["ring", own]), False)
                self.assertIs(is_bar(skin, wish, ("ring", own, own)), False)
            # To and fro asks for nothing, and behind the other one it only makes the RING longer.
            self.assertIs(is_bar(skin, wish, ("ring", ring + back)), False)
            more = ring + (ring[0], back[-1]) * abs(asked(skin, wish, ring))
            self.assertIs(is_bar(skin, wish, ("ring", more)), False)
            if len({own[0] for own in ring + back[:1]}) > 1:
                self.assertIs(is_bar(skin, wish, ("ring", ring[:-1])), False)
                self.assertIs(is_bar(skin, wish, ("ring", ring[:1] + ring[:1])), False)
        self.assertGreater(seen, 30)

    def test_asked_for_just_as_many_as_it_has_does_not_bar(self):
        seen = 0
        for skin, vanes in skins_with_vanes():
            wish = wish_of(skin, vanes)
            for field, side in crossings(skin)[:8]:
                ring = ring_on(skin, Dice(field + side), field, 1)
                if abs(asked(skin, wish, ring)) == len(ring):
                    seen += 1
                    self.assertIs(is_bar(skin, wish, ("ring", ring)), False)
        self.assertGreater(seen, 10)

    def test_things_of_any_kind(self):
        for skin, wish in ((PILLOW, ((1, 1, 0, 0), ())), (PILLOW, ((1, 0, 0, 0), ())), (LOOP, ((0,), (1, 0))),
                           (LOOP, ((0,), (4, 0))), (CUBE, plain_wish(CUBE)), (LOOP, ((0,), (0, 0)))):
            for thing in NO_BARS:
                if thing != ("sum",):
                    with self.subTest(skin=skin, wish=wish, thing=thing):
                        self.assertIs(is_bar(skin, wish, thing), False)
        self.assertIs(is_bar(LOOP, ((0,), (1, 0)), ("rest", 0)), True)
        self.assertIs(is_bar(LOOP, ((0,), (0, 1)), ("rest", 1)), True)
        self.assertIs(is_bar(LOOP, ((0,), (0, 1)), ("rest", True)), False)
        self.assertIs(is_bar(LOOP, ((0,), (1, 0)), ("rest", False)), False)
        self.assertIs(is_bar(PILLOW, ((1, 0, 0, 0), ()), ("sum",)), True)
        self.assertIs(is_bar(PILLOW, ((1, 0, 0, 0), ()), ["sum"]), False)


class TurningsBetween(unittest.TestCase):
    def test_beside_all_vanes(self):
        dice, seen = Dice(67), {"none": 0, "some": 0}
        for skin in small_skins():
            if not handle_rings(skin):
                continue
            had = {wish_of(skin, vanes) for vanes in every_vanes(skin)}
            for whirls, turnings in sorted(had)[:12] + wishes_near(skin, 12):
                for number in range(len(turnings)):
                    met = sorted(turns[number] for whirls_had, turns in had if whirls_had == whirls
                                 and changed_at(turns, number, 0) == changed_at(turnings, number, 0))
                    given = changed_at(turnings, number, dice.below(99) - 50)
                    told = turnings_between(skin, whirls, number, given)
                    seen["some" if met else "none"] += 1
                    self.assertEqual(told, (met[0], met[-1]) if met else None)
                    if met:
                        self.assertEqual(met, list(range(met[0], met[-1] + 1, 4)))
        self.assertGreater(min(seen.values()), 30)

    def test_on_larger_skins(self):
        dice, seen = Dice(68), 0
        for skin, vanes in skins_with_vanes()[::4]:
            whirls, turnings = wish_of(skin, vanes)
            for number in range(len(turnings))[:2]:
                given = changed_at(turnings, number, dice.below(10 ** 6))
                least, greatest = turnings_between(skin, whirls, number, given)
                self.assertTrue(least <= turnings[number] <= greatest)
                seen += least < greatest
                for turn in range(least, greatest + 1, 4):
                    self.assertIs(can_be(skin, (whirls, changed_at(turnings, number, turn))), True)
                for turn in (least - 4, greatest + 4):
                    self.assertIs(can_be(skin, (whirls, changed_at(turnings, number, turn))), False)
        self.assertGreater(seen, 3)

    def test_none(self):
        self.assertIsNone(turnings_between(LOOP, (1,), 0, (0, 0)))
        self.assertIsNone(turnings_between(LOOP, (0,), 0, (0, 1)))
        self.assertIsNone(turnings_between(LOOP, (0,), 1, (4, 0)))
        self.assertEqual(turnings_between(LOOP, (0,), 0, (1, 0)), (0, 0))
        self.assertEqual(turnings_between(LOOP, (0,), 1, (0, 10 ** 6)), (0, 0))
        belt = torus(1, 4, 0)
        self.assertIsNone(turnings_between(belt, (1, 0, 0, 0), 0, (0, 0)))

    def test_the_far_ends_of_belts(self):
        for wide in (1, 2, 5, 9, 16, 40):
            skin = torus(wide, 1, 0)
            rings = handle_rings(skin)
            long = max(range(2), key=lambda number: len(rings[number]))
            told = turnings_between(skin, (0,) * wide, long, (0, 0))
            self.assertEqual(told, (-(wide // 4) * 4, wide // 4 * 4))

    def test_no_number_of_a_handle_ring(self):
        for skin in (LOOP, TWIN, TWIST, PAIR, torus(5, 4, 2)):
            whirls, turns = plain_wish(skin)
            for number in (-1, -len(turns), len(turns), len(turns) + 1, 10 ** 6, -10 ** 6):
                self.assertRaises(Unfit, turnings_between, skin, whirls, number, turns)
                barred = changed_at(whirls, 0, 99)
                self.assertRaises(Unfit, turnings_between, skin, barred, number, turns)
        for skin in (PILLOW, CUBE, CONE):
            self.assertEqual(handles(skin), 0)
            for number in (0, -1, 1):
                self.assertRaises(Unfit, turnings_between, skin, plain_wish(skin)[0], number, ())


class Refusals(unittest.TestCase):
    def test_no_wish(self):
        for skin in (LOOP, PILLOW, PAIR, TWIST):
            for wish in nearly_wishes(skin) + [endless()]:
                with self.subTest(skin=skin, wish=wish):
                    self.assertRaises(Unfit, can_be, skin, wish)
                    self.assertRaises(Unfit, lay, skin, wish)
                    self.assertRaises(Unfit, bar, skin, wish)
                    self.assertRaises(Unfit, is_bar, skin, wish, ("sum",))

    def test_no_whirls_or_no_turnings(self):
        for skin in (LOOP, WHEEL, PAIR, TWIST):
            whirls, turns = plain_wish(skin)
            for bad in nearly_whirls(skin) + NOTHINGS[:16]:
                with self.subTest(skin=skin, bad=bad):
                    self.assertRaises(Unfit, turnings_between, skin, bad, 0, turns)
            for bad in (turns + (0,), turns[1:], (), None, 0, "00", changed_at(turns, 0, None), (turns,),
                        changed_at(turns, 0, True), changed_at(turns, 1, "0"), endless()):
                with self.subTest(skin=skin, bad=bad):
                    self.assertRaises(Unfit, turnings_between, skin, whirls, 0, bad)

    def test_no_skin_ahead_of_all(self):
        for skin in not_skins():
            for wish in (((0,), (0, 0)), None):
                self.assertRaises(Unfit, can_be, skin, wish)
                self.assertRaises(Unfit, lay, skin, wish)
                self.assertRaises(Unfit, bar, skin, wish)
                self.assertRaises(Unfit, is_bar, skin, wish, None)
            self.assertRaises(Unfit, turnings_between, skin, (0,), 0, (0, 0))

    def test_lists_for_a_wish(self):
        dice = Dice(69)
        skin = grown_skin(dice, TWIN, 9)
        whirls, turns = whirls_on(dice, skin, 1), turnings_on(dice, skin, 0)
        given = [list(whirls), list(turns)]
        self.assertIs(can_be(skin, given), can_be(skin, (whirls, turns)))
        self.assertEqual(turnings_between(skin, given[0], 1, given[1]), turnings_between(skin, whirls, 1, turns))
        self.assertEqual(given, [list(whirls), list(turns)])
        self.assertEqual(put_behind(LOOP, ((0, 0),), ((0, 1),)), ((0, 0), (0, 1)))


if __name__ == "__main__":
    unittest.main()
