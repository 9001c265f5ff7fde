"""Promise [4]: skins.py."""

import itertools
import unittest

from tests.kinds import NEARLY_SKINS, NOTHINGS, not_skins
from tests.samples import (CONE, CROOK, CUBE, Dice, LOOP, NAMED, PAIR, PILLOW, TWIN, all_skins, crossings,
                           few_skins, from_seams, grown_skin, many_skins, renamed_at_haphazard, seams_of,
                           thrown_skin, torus)
from whirlskin.corners import lacks
from whirlskin.errors import NoField, Unfit
from whirlskin.skins import alike, edges, is_skin, least_form, neighbours, renamed, sewn_to


def begun(skin, crossing):
    """The SKIN begun at crossing, by the words of [4]: new names are given while SIDES are looked at."""
    new_name, old_side_0 = {crossing[0]: 0}, {crossing[0]: crossing[1]}
    at = 0
    while at < len(new_name):
        field = [own for own, name in new_name.items() if name == at][0]
        for side in range(4):
            other, back = skin[field][(old_side_0[field] + side) % 4]
            if other not in new_name:
                new_name[other], old_side_0[other] = len(new_name), back
        at += 1

    def new(own):
        return new_name[own[0]], (own[1] - old_side_0[own[0]]) % 4

    return from_seams({new(one): new(two) for one, two in seams_of(skin).items()}, len(skin))


def renamed_by(skin, order, turns):
    """skin renamed, one seam after the other."""
    seams = {}
    for (field, side), (other, back) in seams_of(skin).items():
        new, new_other = order.index(field), order.index(other)
        seams[new, (side - turns[new]) % 4] = (new_other, (back - turns[new_other]) % 4)
    return from_seams(seams, len(skin))


def all_names(many):
    """Each ORDER and turns of SKINS of so many FIELDS."""
    return itertools.product(itertools.permutations(range(many)), itertools.product(range(4), repeat=many))


class IsSkin(unittest.TestCase):
    def test_skins_are_skins(self):
        for skin in many_skins():
            with self.subTest(skin=skin):
                self.assertIs(is_skin(skin), True)

    def test_of_all_rows_of_one_field_three_are_skins(self):
        cells = [(0, side) for side in range(4)]
        rows = [(row,) for row in itertools.product(cells, repeat=4)]
        self.assertEqual([own for own in rows if is_skin(own)], sorted(all_skins(1)))
        self.assertEqual(len(all_skins(1)), 3)

    def test_beyond_forty_fields(self):
        dice = Dice(3)
        for skin in (thrown_skin(dice, 41), grown_skin(dice, CUBE, 61), torus(50, 40, 7), torus(3000, 1, 1)):
            with self.subTest(many=len(skin)):
                self.assertIs(is_skin(skin), True)
                self.assertIs(is_skin(skin + skin), False)
        self.assertEqual(len(edges(torus(50, 40, 7))), 4000)
        self.assertEqual(neighbours(torus(3000, 1, 0), 2999), (0, 2998))

    def test_nothings_of_any_kind_are_none(self):
        for thing in NOTHINGS:
            with self.subTest(thing=thing):
                self.assertIs(is_skin(thing), False)

    def test_what_looks_like_one(self):
        for name, thing in NEARLY_SKINS.items():
            with self.subTest(name=name):
                self.assertIs(is_skin(thing), False)

    def test_lists_in_the_place_of_tuples_are_none(self):
        for skin in NAMED:
            self.assertIs(is_skin(list(skin)), False)
            for at in range(len(skin)):
                rows = skin[:at] + (list(skin[at]),) + skin[at + 1:]
                self.assertIs(is_skin(rows), False)
                for side in range(4):
                    row = skin[at][:side] + (list(skin[at][side]),) + skin[at][side + 1:]
                    self.assertIs(is_skin(skin[:at] + (row,) + skin[at + 1:]), False)

    def test_a_skin_with_one_crossing_changed_is_none(self):
        for skin in NAMED:
            for field, side in crossings(skin):
                for cell in crossings(skin) + [(len(skin), 0), (-1, 0), (0, 4), (0, -1), (True, True), [0, 0]]:
                    if repr(cell) != repr(skin[field][side]):
                        row = skin[field][:side] + (cell,) + skin[field][side + 1:]
                        self.assertIs(is_skin(skin[:field] + (row,) + skin[field + 1:]), False)

    def test_what_does_not_hang_together_is_none(self):
        for one, two in itertools.product(NAMED, repeat=2):
            both = one + tuple(tuple((field + len(one), side) for field, side in row) for row in two)
            self.assertIs(is_skin(both), False)


class Looks(unittest.TestCase):
    def test_edges(self):
        for skin in many_skins():
            told = edges(skin)
            self.assertIs(type(told), list)
            self.assertEqual(len(told), 2 * len(skin))
            pairs = {frozenset((own, skin[own[0]][own[1]])) for own in crossings(skin)}
            self.assertEqual(told, sorted(min(own) for own in pairs))

    def test_sewn_to_and_neighbours(self):
        for skin in many_skins():
            for field, side in crossings(skin):
                self.assertEqual(sewn_to(skin, field, side), skin[field][side])
                others = {own[0] for own in skin[field]} - {field}
                self.assertEqual(neighbours(skin, field), tuple(sorted(others)))

    def test_neighbours_of_a_field_sewn_to_itself_alone(self):
        self.assertEqual([neighbours(own, 0) for own in (LOOP, CONE)], [(), ()])
        self.assertEqual([neighbours(PAIR, own) for own in (0, 1, 2)], [(1, 2), (0, 2), (0, 1)])

    def test_no_such_field(self):
        for skin in (LOOP, PAIR, CUBE):
            for field in (-1, -2, -len(skin), len(skin), len(skin) + 1, 10 ** 6, -10 ** 6):
                for call in (lambda: sewn_to(skin, field, 0), lambda: neighbours(skin, field)):
                    with self.assertRaises(NoField) as caught:
                        call()
                    self.assertEqual(caught.exception.field, field)

    def test_no_skin_comes_ahead_of_no_field(self):
        for skin in not_skins():
            self.assertRaises(Unfit, edges, skin)
            for field in (0, -1, 99):
                self.assertRaises(Unfit, sewn_to, skin, field, 0)
                self.assertRaises(Unfit, neighbours, skin, field)


class Renamed(unittest.TestCase):
    def test_each_order_and_turns_of_small_skins(self):
        for skin in (LOOP, CONE, TWIN, PILLOW, PAIR, CROOK):
            for order, turns in all_names(len(skin)):
                told = renamed(skin, order, turns)
                self.assertEqual(told, renamed_by(skin, order, turns))
                self.assertTrue(is_skin(told))

    def test_at_haphazard(self):
        dice = Dice(4)
        for skin in many_skins():
            order, turns, other = renamed_at_haphazard(dice, skin)
            told = renamed(skin, order, turns)
            self.assertEqual(told, other)
            self.assertIs(is_skin(told), True)
            self.assertEqual(sorted(lacks(told)), sorted(lacks(skin)))
            self.assertEqual(renamed(skin, tuple(range(len(skin))), (0,) * len(skin)), skin)

    def test_what_is_no_order(self):
        bad = [(0, 0), (1, 1), (0,), (), (0, 1, 2), (0, 2), (-1, 0), (1, 0, 1), (0, True), (False, 1), ("0", "1"), "01",
               (0, None), None, 1, True, {0: 1, 1: 0}, {0, 1}, range(2), (0.0, 1.0), ((0, 1),), ((0,), (1,)), [[0], [1]]]
        for order in bad:
            for turns in ((0, 0), (0, 4), None):
                with self.subTest(order=order, turns=turns):
                    self.assertRaises(Unfit, renamed, TWIN, order, turns)

    def test_what_are_no_turns(self):
        bad = [(0,), (), (0, 0, 0), (0, 4), (-1, 0), (0, True), (False, 0), ("0", "0"), "00", None, 0, (0, None),
               (0.0, 0), ((0, 0),), [[0], [0]], {0: 0, 1: 0}, range(2), (0, 10 ** 6)]
        for turns in bad:
            with self.subTest(turns=turns):
                self.assertRaises(Unfit, renamed, TWIN, (0, 1), turns)

    def test_no_skin(self):
        for skin in not_skins():
            self.assertRaises(Unfit, renamed, skin, (0,), (0,))
            self.assertRaises(Unfit, renamed, skin, None, None)


class LeastForm(unittest.TestCase):
    def test_it_is_the_least_of_those_begun(self):
        for skin in many_skins():
            told = least_form(skin)
            self.assertEqual(told, min(begun(skin, own) for own in crossings(skin)))
            self.assertIs(is_skin(told), True)
            self.assertEqual(sorted(lacks(told)), sorted(lacks(skin)))
            self.assertEqual(least_form(told), told)

    def test_twin_begun_at_0_1_is_its_least_form(self):
        self.assertEqual(begun(TWIN, (0, 1)), least_form(TWIN))

    def test_renamed_it_is_the_same(self):
        dice = Dice(5)
        for skin in many_skins():
            other = renamed_at_haphazard(dice, skin)[2]
            self.assertEqual(least_form(other), least_form(skin))
            self.assertIs(alike(skin, other), True)
            self.assertIs(alike(other, skin), True)

    def test_alike_exactly_if_some_names_make_it_so(self):
        skins = all_skins(2)
        come = {skin: {renamed_by(skin, *own) for own in all_names(2)} for skin in skins}
        for one, two in itertools.product(skins[::3], skins):
            self.assertIs(alike(one, two), two in come[one])
            self.assertEqual(alike(one, two), least_form(one) == least_form(two))

    def test_alike_of_three_fields(self):
        skins = all_skins(3)[::450] + [PAIR, CROOK]
        for one in skins:
            come = {renamed_by(one, *own) for own in all_names(3)}
            for two in skins:
                self.assertIs(alike(one, two), two in come)

    def test_of_unlike_many_fields(self):
        few = few_skins()
        for one, two in itertools.product(few, few):
            if len(one) != len(two):
                self.assertIs(alike(one, two), False)

    def test_no_skin(self):
        for skin in not_skins():
            self.assertRaises(Unfit, least_form, skin)
            self.assertRaises(Unfit, alike, skin, LOOP)
            self.assertRaises(Unfit, alike, LOOP, skin)
            self.assertRaises(Unfit, alike, skin, skin)


if __name__ == "__main__":
    unittest.main()
