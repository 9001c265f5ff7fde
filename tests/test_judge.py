"""Promise [21]: judge.py."""

import itertools
import unittest

from tests.aims import changed_at, nearly_wishes, plain_wish, wish_on
from tests.kinds import NOTHINGS, endless, in_lists, not_skins
from tests.samples import (BRAID, CONE, CUBE, Dice, LOOP, PAIR, PILLOW, TWIN, TWIST, all_skins, corner_rows, heap_skins,
                           many_skins, ring_on, rising_skins, skins_with_vanes)
from tests.walks import (difference, distances, gone_by, not_vanes, pairs_of_lots, small_lots, tight_by_hand, walked)
from whirlskin.errors import Unfit
from whirlskin.heights import are_heights, height_counts
from whirlskin.judge import (first_fallen, is_claim, is_paper_against, is_reason_for, is_so, paper_against, reason_for)
from whirlskin.lays import bar, can_be, is_bar, lay
from whirlskin.rings import gone_back
from whirlskin.vanes import are_vanes
from whirlskin.whirls import wish_of
from whirlskin.wishes import asked, bars_first, fits, wide_steps

RINGS = {CUBE: ((0, 3), (2, 1), (4, 2)), LOOP: ((0, 0),), TWIST: ((0, 2), (1, 1))}
START, RISE, SPUN = (0, 0, 2, 1, 1, 1), (2, 0, 2, 1, 1, 1), (1, 1, 3, 2, 2, 2)
NEAR, FAR = ((1, 1, 0, 0, 0, 0, 0, 0), ()), ((1, 0, 0, 0, 0, 0, 0, 1), ())
# One CLAIM of each word that stands, and one that does not.
STANDING = [("x", CUBE, 2), ("asked", CUBE, NEAR, RINGS[CUBE], 3), ("wish", CUBE, FAR), ("led", CUBE, START, RISE)]
FALLING = [("x", CUBE, 0), ("asked", CUBE, NEAR, RINGS[CUBE], 4), ("wish", CUBE, NEAR), ("led", CUBE, START, SPUN)]
# What is no PAPER and no REASON, whatever the CLAIM.
NOWHERE = [own for own in NOTHINGS if own not in ((), (0,), ((0,),), (4,), (-1,))] + [
    "sum", ["sum"], ("ring",), ("rest",), endless(), ("sum", 0), ("on",), ((0, 1, 2),), (10 ** 30,), ((10 ** 30, 1),)]


def heights_on(dice, skin):
    """HEIGHTS at haphazard."""
    many = len(corner_rows(skin))
    return tuple(dice.mixed(range(-many, 2 * many)))[:many]


def other_wide_steps(dice, skin, rows):
    """WIDE STEPS that fit what rows fit: more by the differences of numbers on FIELDS."""
    numbers = [dice.below(19) - 9 for _ in skin]
    return tuple(tuple(step + numbers[skin[field][side][0]] - numbers[field] for side, step in enumerate(row))
                 for field, row in enumerate(rows))


class Word(unittest.TestCase):
    """What all four words have in common."""

    def look_at(self, claim, good):
        self.assertIs(is_claim(claim), True)
        self.assertIs(is_so(claim), good)
        paper, reason = paper_against(claim), reason_for(claim)
        self.assertIs(paper is None, good)
        self.assertIs(reason is not None, good)
        self.assertIs(is_paper_against(claim, paper), not good)
        self.assertIs(is_reason_for(claim, reason), good)
        self.assertIs(is_paper_against(claim, reason), False)
        self.assertIs(is_reason_for(claim, paper), False)
        return paper if reason is None else reason


class X(Word):
    def test_claims_papers_and_reasons(self):
        dice = Dice(140)
        for skin in rising_skins()[::2]:
            x = len(corner_rows(skin)) - len(skin)
            for number in (x, x + 1, x - 1, x + 2, x - 4, -x - 1, 0, 10 ** 6):
                claim = ("x", skin, number)
                told = self.look_at(claim, number == x)
                self.assertIs(are_heights(skin, told), True)
                heights = heights_on(dice, skin)
                self.assertEqual(sum(height_counts(skin, heights)), x)
                for own in (heights, tuple(-one for one in heights)):
                    self.assertIs(is_reason_for(claim, own), number == x)
                    self.assertIs(is_paper_against(claim, own), number != x)
                bad = [heights[:-1], heights + (99999,), changed_at(heights, 0, heights[1]), list(heights),
                       changed_at(heights, 0, None), changed_at(heights, 0, True), (heights,), heights * 2]
                for own in bad:
                    self.assertIs(is_reason_for(claim, own), False)
                    self.assertIs(is_paper_against(claim, own), False)

    def test_no_claim_of_a_skin_that_can_not_rise(self):
        rising, seen = rising_skins(), 0
        for skin in many_skins() + all_skins(2)[::10]:
            if skin not in rising:
                seen += 1
                self.assertIs(is_claim(("x", skin, len(corner_rows(skin)) - len(skin))), False)
                self.assertRaises(Unfit, is_so, ("x", skin, 0))
        self.assertGreater(seen, 30)


class Asked(Word):
    def test_claims_papers_and_reasons(self):
        dice, seen = Dice(141), set()
        for skin in many_skins() + heap_skins()[::3]:
            wish = wish_on(dice, skin, 1)
            ring = ring_on(skin, dice, dice.below(len(skin)), 1 + dice.below(4))
            number = asked(skin, wish, ring)
            seen.add(number)
            wide = other_wide_steps(dice, skin, wide_steps(skin, wish))
            self.assertIs(fits(skin, wish, wide), True)
            for own in (number, number + 1, number - 1, number + 4, -number, 0, -10 ** 6):
                claim = ("asked", skin, wish, ring, own)
                told = self.look_at(claim, own == number)
                self.assertIs(fits(skin, wish, told), True)
                self.assertIs(is_reason_for(claim, wide), own == number)
                self.assertIs(is_paper_against(claim, wide), own != number)
            self.assertIs(is_so(("asked", skin, wish, gone_back(skin, ring), -number)), True)
            self.look_at_bad(dice, skin, wish, ring, number, wide)
        self.assertGreater(len(seen), 10)

    def look_at_bad(self, dice, skin, wish, ring, number, wide):
        field, side = dice.below(len(skin)), dice.below(4)
        bad = [wide[:-1], wide + wide, list(wide), (list(wide[0]),) + wide[1:], (wide[0][:3],) + wide[1:], (wide[0] + (0,),) + wide[1:],
               changed_at(wide, field, changed_at(wide[field], side, wide[field][side] + 1)),
               changed_at(wide, field, changed_at(wide[field], side, True)),
               tuple(tuple(-own + 1 for own in row) for row in wide), wide[0], (wide,)]
        for thing in bad:
            for own in (number, number + 1):
                self.assertIs(is_reason_for(("asked", skin, wish, ring, own), thing), False)
                self.assertIs(is_paper_against(("asked", skin, wish, ring, own), thing), False)

    def test_no_claim_of_a_wish_that_is_barred_first(self):
        self.assertIs(is_claim(("asked", LOOP, ((0,), (4, 0)), ((0, 0),), 4)), True)
        for wish in (((0,), (1, 0)), ((0,), (0, 2)), ((1,), (0, 0)), ((1,), (1, 1)), ((0,), (0,)), ((0,), (0, 0, 0))):
            self.assertIs(is_claim(("asked", LOOP, wish, ((0, 0),), 4)), False)
            self.assertRaises(Unfit, is_so, ("asked", LOOP, wish, ((0, 0),), 4))
        for ring in ((), ((0, 4),), ((1, 0),), None, (0, 0), ((0, 0), None), [(0, 0)]):
            self.assertIs(is_claim(("asked", LOOP, ((0,), (4, 0)), ring, 4)), False)
        # Such WIDE STEPS fit LOOP's WISH and are all zero over a RING to and fro.
        self.assertIs(is_so(("asked", LOOP, ((0,), (4, -8)), ((0, 0), (0, 3), (0, 0)), 16)), True)


class Wish(Word):
    def test_claims_papers_and_reasons(self):
        dice, seen = Dice(142), {True: 0, "sum": 0, "rest": 0, "ring": 0}
        rows = [(skin, wish_of(skin, vanes)) for skin, vanes in skins_with_vanes()[::4]]
        for skin in many_skins():
            whirls, turnings = wish_on(dice, skin, 1)
            rows += [(skin, (whirls, turnings)), (skin, (changed_at(whirls, 0, whirls[0] + 1), turnings))]
            if turnings:
                rows.append((skin, (whirls, changed_at(turnings, 0, turnings[0] + 1))))
        for skin, wish in rows:
            good = can_be(skin, wish)
            seen[good or bar(skin, wish)[0]] += 1
            claim = ("wish", skin, wish)
            told = self.look_at(claim, good)
            if good:
                self.assertEqual(wish_of(skin, told), wish)
                for turn in range(4):
                    far = tuple((own + turn) % 4 for own in told)
                    self.assertIs(is_reason_for(claim, far), True)
                    self.assertIs(is_paper_against(claim, far), False)
                self.assertIs(is_reason_for(claim, list(told)), False)
            else:
                self.assertIs(is_bar(skin, wish, told), True)
                self.assertIs(is_paper_against(claim, list(told)), False)
            for own in [("sum",), ("rest", 0), ("rest", 1), ("rest", 99), ("ring", ring_on(skin, dice, 0, 2))]:
                self.assertIs(is_paper_against(claim, own), is_bar(skin, wish, own))
                self.assertIs(is_reason_for(claim, own), False)
        self.assertGreater(min(seen.values()), 10, seen)

    def test_vanes_of_another_wish_are_no_reason(self):
        seen, rows = 0, small_lots(6, 4)
        for skin, _, lot in rows:
            for other, _, others in rows:
                if skin == other:
                    wish = wish_of(skin, lot[0])
                    same = wish == wish_of(skin, others[-1])
                    seen += not same
                    self.assertIs(is_reason_for(("wish", skin, wish), others[-1]), same)
        self.assertGreater(seen, 20)


class Led(Word):
    def test_claims_papers_and_reasons(self):
        dice, seen = Dice(143), {True: 0, False: 0}
        for skin, vanes, far in pairs_of_lots()[::5]:
            tight, numbers = tight_by_hand(skin, vanes), difference(skin, vanes, far)
            good = not tight or len({numbers[own] for own in tight}) == 1 and numbers[tight[0]] % 4 == 0
            seen[good] += 1
            claim = ("led", skin, vanes, far)
            told = self.look_at(claim, good)
            if good:
                self.assertEqual(gone_by(skin, vanes, told), far)
                way, back = walked(dice, skin, far, 6)
                self.assertIs(is_reason_for(("led", skin, vanes, back), told + way), True)
                self.assertIs(is_reason_for(claim, told + way), far == back)
                self.assertIs(is_reason_for(claim, list(told)), False)
            else:
                self.assertIs(is_reason_for(claim, ()), False)
                self.assertIs(is_paper_against(claim, list(told)), False)
                self.assertIs(is_paper_against(claim, told + (len(skin),)), False)
            self.look_at_sets(dice, claim, tight, numbers)
        self.assertGreater(min(seen.values()), 20)

    def look_at_sets(self, dice, claim, tight, numbers):
        """Each set of one FIELD, some sets of two, in whatever order."""
        fields = range(-2, len(numbers) + 2)
        for field in fields:
            self.assertIs(is_paper_against(claim, (field,)), field in tight and numbers[field] % 4 != 0)
        for _ in range(25):
            pair = dice.pick(tight or (0,)), dice.pick(tight or (1,)) if dice.below(3) else dice.pick(fields)
            good = pair[0] < pair[1] and set(pair) <= set(tight) and numbers[pair[0]] != numbers[pair[1]]
            self.assertIs(is_paper_against(claim, pair), good)
            self.assertIs(is_reason_for(claim, pair), False)

    def test_small_ones_by_all_that_plans_lead_to(self):
        for skin, had, lot in small_lots(4):
            far_off = distances(had, lot[0])
            for far in lot[::len(lot) // 10 + 1]:
                self.look_at(("led", skin, lot[0], far), far in far_off)

    def test_by_hand(self):
        claim = ("led", CUBE, START, SPUN)
        for thing in ((2, 1), (1, 1), (1, 2, 3), (1, 6), (True,), (1.0,), ("1",), [1], 1, ((1,),), (-5,), (None,), (1, None), (0, 1)):
            self.assertIs(is_paper_against(claim, thing), False)
        self.assertIs(is_paper_against(claim, (1,)), True)
        braid = ("led", BRAID, (1, 2, 0, 3, 1), (1, 2, 1, 3, 2))
        self.assertEqual(difference(BRAID, *braid[2:]), (0, 0, 1, 0, 1))
        papers = [own for size in (1, 2) for own in itertools.combinations(range(5), size) if is_paper_against(braid, own)]
        self.assertEqual(papers, [(2,), (4,), (1, 2), (1, 4), (2, 3), (3, 4)])
        for thing in (((0, 1),), ((0, 1), (0, 1), (0, 1)), ((0, 1), (0, -1)), ((0, 1), (0, 1), (1, 1)), ((0, True), (0, 1)), ()):
            self.assertIs(is_reason_for(("led", CUBE, START, RISE), thing), False)
        self.assertIs(is_reason_for(("led", CUBE, START, RISE), ((0, 1), (0, -1), (0, 1), (0, 1))), True)
        self.assertIs(is_reason_for(("led", CUBE, START, START), ()), True)


class Things(unittest.TestCase):
    def test_papers_and_reasons_of_any_kind(self):
        for claim in STANDING + FALLING:
            for thing in NOWHERE:
                with self.subTest(claim=claim[0], thing=thing):
                    self.assertIs(is_paper_against(claim, thing), False)
                    self.assertIs(is_reason_for(claim, thing), False)

    def test_with_what_is_no_claim_whatever_thing_is(self):
        for thing in NOTHINGS:
            self.assertRaises(Unfit, is_paper_against, ("x", LOOP, 0), thing)
            self.assertRaises(Unfit, is_reason_for, None, thing)


def no_claims():
    """What is no CLAIM, as tuples or not."""
    rows = [own for own in NOTHINGS] + [endless(), ("x",), ("led",), "x", "wish", ("x", CUBE), ("x", CUBE, 2, 2), (CUBE, "x", 2)]
    rows += [("X", CUBE, 2), ("", CUBE, 2), (None, CUBE, 2), (("x",), CUBE, 2), (["x"], CUBE, 2), (0, CUBE, 2), ("wish", CUBE),
             ("wish", CUBE, FAR, 1), ("asked", CUBE, NEAR, RINGS[CUBE]), ("led", CUBE, START), ("led", CUBE, START, RISE, 2),
             ("x", CONE, 2), ("x", LOOP, 0), {0: "x", 1: CUBE, 2: 2}, (endless(), CUBE, 2), ("sum", CUBE, 2)]
    for skin in not_skins():
        rows += [("x", skin, 2), ("wish", skin, FAR), ("led", skin, (0,), (0,)), ("asked", skin, FAR, ((0, 0),), 0)]
    for number in (None, True, False, "2", (2,), [2], 2.0, (), endless()):
        rows += [("x", CUBE, number), ("asked", CUBE, NEAR, RINGS[CUBE], number)]
    for wish in nearly_wishes(CUBE) + [endless()]:
        rows += [("wish", CUBE, wish), ("asked", CUBE, wish, RINGS[CUBE], 3)]
    for vanes in not_vanes(CUBE):
        rows += [("led", CUBE, vanes, START), ("led", CUBE, START, vanes)]
    rows += [("led", CUBE, START, (0, 0, 0, 0, 0, 0)), ("led", PILLOW, (0, 1), (0, 3)), ("led", TWIN, (0, 0), (0, 2))]
    for ring in NOTHINGS + [RINGS[CUBE][:2], RINGS[CUBE] + RINGS[CUBE][:1], endless(), ((0, 3), (2, 1), (4, True))]:
        rows.append(("asked", CUBE, NEAR, ring, 3))
    return rows


class Claims(unittest.TestCase):
    def test_what_is_none(self):
        for claim in no_claims():
            with self.subTest(claim=claim):
                self.assertIs(is_claim(claim), False)
                for call in (is_so, paper_against, reason_for):
                    self.assertRaises(Unfit, call, claim)
                self.assertRaises(Unfit, is_paper_against, claim, ("sum",))
                self.assertRaises(Unfit, is_reason_for, claim, ())
                self.assertRaises(Unfit, first_fallen, (STANDING[0], claim))
                self.assertRaises(Unfit, first_fallen, (FALLING[0], claim))

    def test_each_word(self):
        for claim in STANDING + FALLING:
            self.assertIs(is_claim(claim), True)
            self.assertIs(is_so(claim), claim in STANDING)
            for own in in_lists(claim):
                self.assertIs(is_claim(own), False)
                self.assertIs(is_so(own), claim in STANDING)
                self.assertEqual((paper_against(own), reason_for(own)), (paper_against(claim), reason_for(claim)))
        self.assertIs(is_claim(["x", CUBE, 2]), False)
        self.assertIs(is_so(["x", list(CUBE), 2]), True)

    def test_whatever_the_bounds(self):
        self.assertIs(is_claim(("x", CUBE, 10 ** 40)), True)
        self.assertIs(is_so(("x", CUBE, 10 ** 40)), False)
        self.assertIs(is_claim(("wish", CUBE, ((10 ** 30,) * 8, ()))), True)
        self.assertEqual(paper_against(("wish", CUBE, plain_wish(CUBE))), ("sum",))
        self.assertEqual(bars_first(PAIR, ((-2,), (0, 0, 0, 1))), ("rest", 3))
        self.assertEqual(paper_against(("wish", PAIR, ((-2,), (0, 0, 0, 1)))), ("rest", 3))
        self.assertIs(are_vanes(CUBE, reason_for(("wish", CUBE, FAR))), True)
        self.assertEqual(wish_of(CUBE, lay(CUBE, FAR)), FAR)


class FirstFallen(unittest.TestCase):
    def test_the_first_that_does_not_stand(self):
        dice = Dice(144)
        self.assertIsNone(first_fallen(()))
        self.assertIsNone(first_fallen([]))
        self.assertIsNone(first_fallen(tuple(STANDING)))
        for claim in FALLING:
            self.assertEqual(first_fallen((claim,)), 0)
            self.assertEqual(first_fallen(tuple(STANDING) + (claim,)), 4)
        for _ in range(40):
            claims = [dice.pick(STANDING + FALLING[:1 + dice.below(4)]) for _ in range(dice.below(7))]
            fallen = [number for number, claim in enumerate(claims) if claim in FALLING]
            self.assertEqual(first_fallen(tuple(claims)), fallen[0] if fallen else None)
            self.assertEqual(first_fallen(claims), fallen[0] if fallen else None)

    def test_no_claim_ahead_of_all(self):
        for at in range(3):
            for bad in (None, (), ("x", LOOP, 0), "x", ("x", CUBE, True)):
                claims = [FALLING[0], STANDING[1], FALLING[3]]
                claims[at] = bad
                self.assertRaises(Unfit, first_fallen, tuple(claims))
                self.assertRaises(Unfit, first_fallen, claims)


if __name__ == "__main__":
    unittest.main()
