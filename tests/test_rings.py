"""Promise [7]: rings.py."""

import unittest

from tests.kinds import NOTHINGS, endless, not_skins
from tests.samples import CUBE, Dice, LOOP, PAIR, PILLOW, TWIST, WHEEL, crossings, many_skins, ring_on, rings_on, torus
from whirlskin.corners import corners, lacks
from whirlskin.errors import NoCorner, Unfit
from whirlskin.rings import asked_most, corner_ring, gone_back, is_ring, led, put_behind, rest
from whirlskin.trees import handle_rings

NOT_RINGS = [own for own in NOTHINGS if own != ((0,),)] + [
    ((0,),), ((0, 0, 0),), ((0, True),), ((False, 0),), ((0, 4),), ((0, -1),), ((6, 0),), ((-1, 0),), (("0", 0),),
    ((0, None),), ((0, 0.0),), "0.0", ("00",), ((0, 0), (0, 1)), (((0, 0),),), ((((0, 0),),),), endless(),
    ((0, 0), (4, 0), (5, 3)), ((4, 0), (0, 0), (5, 3), (1, 3)), ((0, 3), (2, 1), (4, 2), (5, 0)), (None, (0, 0)),
    ((0, 3), (2, 1), 4),
]


def turned_home(skin, ring, side):
    """The SIDE that comes home, led by hand: on each FIELD it stands so far from straight on as before."""
    for field, out in ring:
        other, back = skin[field][out]
        side = (back + 2 + (side - out)) % 4
    return side


class IsRing(unittest.TestCase):
    def test_rings(self):
        dice = Dice(6)
        for skin in many_skins():
            for ring in rings_on(skin, dice):
                self.assertIs(is_ring(skin, ring), True)
                self.assertIs(is_ring(skin, list(ring)), False)
                self.assertIs(is_ring(skin, (list(ring[0]),) + ring[1:]), False)
                self.assertIs(is_ring(skin, ring[:-1] + (list(ring[-1]),)), False)

    def test_by_its_words(self):
        for skin in (LOOP, PILLOW, WHEEL, PAIR, CUBE):
            for one in crossings(skin):
                self.assertIs(is_ring(skin, (one,)), skin[one[0]][one[1]][0] == one[0])
                for two in crossings(skin):
                    leads = skin[one[0]][one[1]][0] == two[0] and skin[two[0]][two[1]][0] == one[0]
                    self.assertIs(is_ring(skin, (one, two)), leads)

    def test_of_however_many_crossings(self):
        self.assertIs(is_ring(LOOP, ((0, 1),) * 50000), True)
        self.assertIs(is_ring(CUBE, ((0, 0), (4, 0), (5, 3), (1, 3)) * 9999), True)
        self.assertIs(is_ring(CUBE, ((0, 0), (4, 0), (5, 3), (1, 3)) * 9999 + ((0, 0),)), False)
        straight = tuple((field, 0) for field in range(900))
        self.assertIs(is_ring(torus(900, 1, 0), straight), True)

    def test_rings_that_do_not_come_home(self):
        dice = Dice(7)
        for skin in (PILLOW, CUBE, torus(5, 4, 2)):
            for least in (3, 6, 9):
                ring = ring_on(skin, dice, 0, least)
                for cut in range(1, len(ring)):
                    home = skin[ring[cut - 1][0]][ring[cut - 1][1]][0]
                    self.assertIs(is_ring(skin, ring[:cut]), home == 0)

    def test_one_crossing_changed(self):
        dice = Dice(20)
        for skin in (LOOP, PILLOW, TWIST, PAIR, CUBE, torus(5, 4, 2)):
            for ring in rings_on(skin, dice):
                for at in range(len(ring)):
                    for crossing in crossings(skin):
                        thing = ring[:at] + (crossing,) + ring[at + 1:]
                        homes = [skin[field][side][0] for field, side in thing]
                        good = homes[-1:] + homes[:-1] == [field for field, _ in thing]
                        self.assertIs(is_ring(skin, thing), good)

    def test_things_of_any_kind(self):
        for thing in NOT_RINGS:
            with self.subTest(thing=thing):
                self.assertIs(is_ring(CUBE, thing), False)

    def test_no_skin_whatever_the_thing_is(self):
        for skin in not_skins():
            for thing in (((0, 0),), None, ()):
                self.assertRaises(Unfit, is_ring, skin, thing)


class Led(unittest.TestCase):
    def test_sides_come_home_turned_by_the_rest(self):
        dice = Dice(8)
        for skin in many_skins():
            for ring in rings_on(skin, dice):
                turn = rest(skin, ring)
                self.assertIn(turn, (0, 1, 2, 3))
                for side in range(4):
                    self.assertEqual(led(skin, ring, side), turned_home(skin, ring, side))
                    self.assertEqual(led(skin, ring, side), (side + turn) % 4)

    def test_all_rests_are_there(self):
        dice = Dice(9)
        rests = {rest(skin, ring) for skin in many_skins() for ring in rings_on(skin, dice)}
        self.assertEqual(rests, {0, 1, 2, 3})
        self.assertEqual([rest(TWIST, ring) for ring in handle_rings(TWIST)], [3, 3])

    def test_begun_elsewhere_the_rest_is_the_same(self):
        dice = Dice(10)
        for skin in many_skins():
            for ring in rings_on(skin, dice)[:4]:
                rests = {rest(skin, ring[at:] + ring[:at]) for at in range(len(ring))}
                self.assertEqual(rests, {rest(skin, ring)})

    def test_gone_back(self):
        dice = Dice(11)
        for skin in many_skins():
            for ring in rings_on(skin, dice):
                back = gone_back(skin, ring)
                self.assertEqual(back, tuple(skin[field][side] for field, side in reversed(ring)))
                self.assertIs(is_ring(skin, back), True)
                self.assertEqual((rest(skin, ring) + rest(skin, back)) % 4, 0)
                self.assertEqual(gone_back(skin, back), ring)

    def test_put_behind(self):
        dice = Dice(12)
        for skin in many_skins():
            rings = [ring_on(skin, dice, 0, least) for least in (1, 2, 5)]
            for one in rings:
                for two in rings:
                    both = put_behind(skin, one, two)
                    self.assertEqual(both, one + two)
                    self.assertIs(is_ring(skin, both), True)
                    self.assertEqual(rest(skin, both), (rest(skin, one) + rest(skin, two)) % 4)

    def test_corner_ring(self):
        for skin in many_skins():
            for corner, (row, lack) in enumerate(zip(corners(skin), lacks(skin))):
                ring = corner_ring(skin, corner)
                self.assertEqual(ring, tuple((field, (side - 1) % 4) for field, side in row))
                self.assertIs(is_ring(skin, ring), True)
                self.assertEqual(rest(skin, ring), lack % 4)

    def test_asked_most(self):
        dice = Dice(13)
        for skin in many_skins():
            for ring in rings_on(skin, dice):
                self.assertEqual(asked_most(ring), len(ring))
        self.assertEqual(asked_most([[99, 3], [98, 2]]), 2)


class Refusals(unittest.TestCase):
    def test_no_ring(self):
        good = ((0, 0), (4, 0), (5, 3), (1, 3))
        for thing in NOT_RINGS:
            with self.subTest(thing=thing):
                self.assertRaises(Unfit, led, CUBE, thing, 0)
                self.assertRaises(Unfit, rest, CUBE, thing)
                self.assertRaises(Unfit, gone_back, CUBE, thing)
                self.assertRaises(Unfit, put_behind, CUBE, thing, good)
                self.assertRaises(Unfit, put_behind, CUBE, good, thing)

    def test_put_behind_of_unlike_first_fields(self):
        ring = ((0, 0), (1, 2))
        self.assertRaises(Unfit, put_behind, PILLOW, ring, gone_back(PILLOW, ring)[1:] + ring[:1])
        belt = ((0, 0), (4, 0), (5, 3), (1, 3))
        for at in (1, 2, 3):
            self.assertRaises(Unfit, put_behind, CUBE, belt, belt[at:] + belt[:at])
        self.assertEqual(put_behind(CUBE, belt, belt), belt + belt)

    def test_no_corner(self):
        for skin in (LOOP, PILLOW, CUBE):
            many = len(corners(skin))
            for corner in (-1, -many, many, many + 1, 10 ** 6, -10 ** 6):
                with self.assertRaises(NoCorner) as caught:
                    corner_ring(skin, corner)
                self.assertEqual(caught.exception.corner, corner)

    def test_no_skin_ahead_of_all(self):
        for skin in not_skins():
            for ring in (((0, 0), (1, 2)), None):
                self.assertRaises(Unfit, led, skin, ring, 0)
                self.assertRaises(Unfit, rest, skin, ring)
                self.assertRaises(Unfit, gone_back, skin, ring)
                self.assertRaises(Unfit, put_behind, skin, ring, ring)
            for corner in (0, -1, 99):
                self.assertRaises(Unfit, corner_ring, skin, corner)


if __name__ == "__main__":
    unittest.main()
