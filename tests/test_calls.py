"""How each function may be called: names, lists for tuples, and what is handed in stays as it was."""

import copy
import importlib
import inspect
import unittest

from tests.cubes import ARCH, BEND, HOLLOW, RING
from tests.kinds import in_lists, relisted
from tests.samples import BRAID, CROOK, CUBE, LOOP, PAIR, PILLOW, TWIN, TWIST, WHEEL

BELT = ((0, 0), (4, 0), (5, 3), (1, 3))
HALF = ((0, 3), (2, 1), (4, 2))
ROUND_TWIN = ((0, 1), (0, 2), (1, 0))
SHUT = (((0, 0), (0, 1), (0, 2), (0, 3)),)
WILD = (5, 0, 3, 7, 2, 6, 1, 4)
FAR, NEAR = ((1, 0, 0, 0, 0, 0, 0, 1), ()), ((1, 1, 0, 0, 0, 0, 0, 0), ())
SPUN = ((2, -2), (-3, 5))
CLAIMS = (("x", CUBE, 2), ("x", CUBE, 0), ("asked", CUBE, NEAR, HALF, 3), ("wish", CUBE, ((0, 0, 0, 1, 0, 0, 1, 0), ())),
          ("wish", CUBE, NEAR), ("asked", CUBE, FAR, BELT, 3), ("led", CUBE, (0, 0, 2, 1, 1, 1), (2, 0, 2, 1, 1, 1)),
          ("led", CUBE, (0, 0, 2, 1, 1, 1), (1, 1, 3, 2, 2, 2)))
HELD, FREE = (1, 2, 0, 3, 1), (1, 2, 1, 3, 2)

# For each file of the interface: for each function its names of arguments, and some arguments for it.
INTERFACE = {
    "skins": {
        "is_skin": (("thing",), [(CUBE,), (SHUT,)]),
        "edges": (("skin",), [(PAIR,), (LOOP,)]),
        "sewn_to": (("skin", "field", "side"), [(PAIR, 1, 3), (CUBE, 5, 0)]),
        "neighbours": (("skin", "field"), [(PAIR, 0), (LOOP, 0)]),
        "renamed": (("skin", "order", "turns"), [(TWIN, (1, 0), (0, 1)), (PAIR, (2, 0, 1), (3, 1, 2))]),
        "alike": (("skin", "other"), [(TWIN, TWIN), (LOOP, TWIN), (PAIR, CROOK)]),
        "least_form": (("skin",), [(TWIN,), (PAIR,)]),
    },
    "corners": {
        "corners": (("skin",), [(CUBE,), (PAIR,)]),
        "corner_at": (("skin", "field", "side"), [(CUBE, 5, 3), (TWIN, 0, 2)]),
        "corners_of": (("skin", "field"), [(CUBE, 5), (TWIN, 0)]),
        "between": (("skin", "crossing"), [(CUBE, (3, 2)), (TWIN, (0, 3))]),
        "lacks": (("skin",), [(CUBE,), (PAIR,)]),
        "sizes": (("skin",), [(CUBE,), (PAIR,)]),
        "x_of": (("skin",), [(CUBE,), (PAIR,)]),
    },
    "rings": {
        "is_ring": (("skin", "thing"), [(CUBE, BELT), (CUBE, BELT[:2])]),
        "led": (("skin", "ring", "side"), [(CUBE, HALF, 3), (CUBE, BELT, 2)]),
        "rest": (("skin", "ring"), [(CUBE, HALF), (CUBE, BELT)]),
        "gone_back": (("skin", "ring"), [(CUBE, HALF), (TWIN, ROUND_TWIN)]),
        "corner_ring": (("skin", "corner"), [(CUBE, 0), (PAIR, 0)]),
        "put_behind": (("skin", "ring", "other"), [(CUBE, HALF, BELT), (LOOP, ((0, 1),), ((0, 0),))]),
        "asked_most": (("ring",), [(BELT,), (HALF,)]),
    },
    "vanes": {
        "are_vanes": (("skin", "thing"), [(TWIN, (0, 1)), (TWIN, (0, 2))]),
        "laid_flat": (("skin", "crossing", "side"), [(CUBE, (0, 2), 3), (PILLOW, (0, 1), 1)]),
        "step": (("skin", "vanes", "crossing"), [(TWIN, (0, 1), (1, 2)), (WHEEL, (0, 2), (0, 3))]),
        "steps": (("skin", "vanes"), [(TWIN, (0, 1)), (WHEEL, (0, 2))]),
        "turning": (("skin", "vanes", "ring"), [(WHEEL, (0, 2), ((0, 2), (1, 0))), (TWIN, (0, 1), ROUND_TWIN)]),
        "all_turned": (("skin", "vanes", "number"), [(TWIN, (0, 1), 3), (WHEEL, (0, 2), -1)]),
        "with_vane": (("skin", "vanes", "field", "side"), [(TWIN, (0, 1), 1, 0), (PILLOW, (0, 1), 0, 0)]),
    },
    "moves": {
        "mirrored": (("skin",), [(PAIR,), (CROOK,)]),
        "vanes_mirrored": (("skin", "vanes"), [(TWIN, (0, 1)), (WHEEL, (0, 2))]),
        "ring_mirrored": (("skin", "ring"), [(TWIN, ROUND_TWIN), (CUBE, HALF)]),
        "vanes_renamed": (("skin", "vanes", "order", "turns"), [(TWIN, (0, 1), (1, 0), (0, 1))]),
        "can_sew": (("skin", "field", "other", "far"), [(PAIR, 2, CUBE, 0), (PAIR, 0, CUBE, 0)]),
        "sewn_together": (("skin", "field", "other", "far", "turn"), [(PAIR, 0, PILLOW, 0, 3), (CUBE, 0, CUBE, 5, 2)]),
    },
    "trees": {
        "field_tree": (("skin",), [(CUBE,), (LOOP,)]),
        "corner_tree": (("skin",), [(CUBE,), (TWIN,)]),
        "loose": (("skin",), [(TWIN,), (PAIR,)]),
        "handle_rings": (("skin",), [(TWIN,), (PAIR,)]),
        "handles": (("skin",), [(CUBE,), (PAIR,)]),
        "way_to": (("skin", "field"), [(CUBE, 5), (CUBE, 0)]),
    },
    "whirls": {
        "whirls": (("skin", "vanes"), [(CUBE, (0, 0, 0, 0, 3, 1)), (PAIR, (0, 0, 0))]),
        "whirl_at": (("skin", "vanes", "corner"), [(CUBE, (0, 0, 0, 0, 0, 0), 3), (PAIR, (0, 0, 0), 0)]),
        "least_whirl": (("skin", "corner"), [(CUBE, 7), (PAIR, 0)]),
        "whirled": (("skin", "vanes", "number"), [(CUBE, (0, 0, 0, 0, 3, 1), 1), (PILLOW, (0, 1), -3)]),
        "wish_of": (("skin", "vanes"), [(WHEEL, (0, 2)), (PILLOW, (0, 3))]),
    },
    "heights": {
        "can_rise": (("skin",), [(CUBE,), (LOOP,)]),
        "are_heights": (("skin", "thing"), [(CUBE, WILD), (PILLOW, (1, 2, 3, 1))]),
        "height_counts": (("skin", "heights"), [(CUBE, WILD), (PILLOW, (3, 1, 7, 2))]),
        "pits": (("skin", "heights"), [(CUBE, WILD), (LOOP, (5,))]),
        "peaks": (("skin", "heights"), [(CUBE, WILD), (LOOP, (5,))]),
    },
    "wishes": {
        "is_wish": (("skin", "thing"), [(CUBE, FAR), (LOOP, ((0,), (1, 0))), (LOOP, ((0,), (1,)))]),
        "bars_first": (("skin", "wish"), [(CUBE, NEAR), (CUBE, ((1,) * 8, ())), (LOOP, ((0,), (4, 1)))]),
        "wide_steps": (("skin", "wish"), [(CUBE, NEAR), (TWIST, SPUN)]),
        "fits": (("skin", "wish", "thing"), [(LOOP, ((0,), (4, 0)), ((4, 0, -4, 0),)),
                                             (LOOP, ((0,), (4, 0)), ((4, 4, -4, -4),))]),
        "asked": (("skin", "wish", "ring"), [(CUBE, NEAR, HALF), (TWIST, SPUN, ((0, 2), (1, 1)))]),
    },
    "lays": {
        "can_be": (("skin", "wish"), [(CUBE, FAR), (CUBE, NEAR), (LOOP, ((0,), (4, 1)))]),
        "lay": (("skin", "wish"), [(CUBE, FAR), (LOOP, ((0,), (0, 0))), (PILLOW, ((0, 1, 0, 1), ()))]),
        "bar": (("skin", "wish"), [(CUBE, NEAR), (CUBE, ((1,) * 8, ())), (LOOP, ((0,), (4, 1)))]),
        "is_bar": (("skin", "wish", "thing"), [(CUBE, NEAR, ("ring", ((0, 3), (2, 1), (4, 1), (3, 3)))),
                                               (CUBE, FAR, ("sum",)), (LOOP, ((1,), (4, 1)), ("rest", 1))]),
        "turnings_between": (("skin", "whirls", "number", "turnings"),
                             [(LOOP, (0,), 1, (0, 9)), (TWIST, (0, 0), 0, (0, 1)), (TWIST, (2, -2), 0, (1, 4))]),
    },
    "cuts": {
        "wants": (("skin", "whirls"), [(CUBE, NEAR[0]), (PILLOW, (1, 0, 1, 0))]),
        "rim_of": (("skin", "lot"), [(CUBE, (0, 1)), (PILLOW, ()), (PILLOW, (0, 2))]),
        "is_cut": (("skin", "whirls", "thing"), [(CUBE, NEAR[0], (0, 1)), (CUBE, FAR[0], (0, 1))]),
        "cut": (("skin", "whirls"), [(CUBE, NEAR[0]), (PILLOW, (1, 0, 0, 0))]),
        "step_rows": (("skin", "whirls"), [(CUBE, FAR[0]), (CUBE, NEAR[0])]),
    },
    "lots": {
        "all_vanes": (("skin",), [(TWIN,), (CUBE,)]),
        "wishes": (("skin",), [(TWIN,), (CUBE,)]),
        "lot": (("skin", "wish"), [(CUBE, FAR), (PILLOW, ((1, 1, 0, 0), ())), (TWIN, ((0, 0), (0, 0)))]),
        "many": (("skin", "wish"), [(CUBE, FAR), (TWIN, ((0, 0), (0, 0)))]),
        "place_of": (("skin", "vanes"), [(TWIN, (1, 2)), (CUBE, (0, 0, 0, 0, 3, 1))]),
        "vanes_at": (("skin", "number"), [(TWIN, 9), (CUBE, 191)]),
    },
    "quarters": {
        "is_quarter": (("skin", "vanes", "thing"), [(TWIN, (0, 0), (0, 1)), (TWIN, (0, 0), (0, 2))]),
        "quarters": (("skin", "vanes"), [(PAIR, (0, 0, 0)), (PILLOW, (0, 1))]),
        "barring": (("skin", "vanes", "field", "way"), [(PAIR, (0, 0, 0), 0, -1), (PAIR, (0, 0, 0), 0, 1)]),
        "turned": (("skin", "vanes", "field", "way"), [(PAIR, (0, 0, 0), 0, 1), (TWIN, (0, 0), 1, -1)]),
        "behind": (("skin", "vanes", "plan"), [(TWIN, (0, 0), ((0, 1), (1, 1), (1, 1))), (TWIN, (0, 0), ())]),
    },
    "gaps": {
        "gap": (("skin", "vanes", "far"), [(TWIN, (0, 0), (0, 3)), (LOOP, (1,), (0,)), (BRAID, HELD, FREE)]),
        "by_gap": (("skin", "vanes", "numbers"), [(TWIN, (0, 0), (3, 4)), (PILLOW, (0, 1), (-3, -3))]),
        "tight_fields": (("skin", "vanes"), [(PILLOW, (0, 1)), (BRAID, HELD), (PAIR, (0, 0, 0))]),
        "tight_ring": (("skin", "vanes", "field"), [(PILLOW, (0, 1), 0), (BRAID, HELD, 4)]),
        "is_tight_ring": (("skin", "vanes", "thing"), [(PILLOW, (0, 1), ((0, 1), (1, 0))),
                                                       (PILLOW, (0, 1), ((0, 0), (1, 1)))]),
        "still_fields": (("skin", "vanes"), [(BRAID, HELD), (BRAID, FREE), (LOOP, (2,))]),
        "room": (("skin", "vanes", "field", "other"), [(PAIR, (0, 0, 0), 2, 0), (PILLOW, (0, 1), 1, 1)]),
    },
    "plans": {
        "can_lead": (("skin", "vanes", "far"), [(PILLOW, (0, 1), (1, 2)), (BRAID, HELD, HELD), (TWIN, (0, 0), (2, 2))]),
        "shift": (("skin", "vanes", "far"), [(PILLOW, (0, 1), (0, 1)), (TWIN, (0, 0), (2, 2))]),
        "fewest": (("skin", "vanes", "far"), [(TWIN, (0, 0), (2, 2)), (CUBE, (0, 0, 2, 1, 1, 1), (2, 0, 2, 1, 1, 1))]),
        "nearest": (("skin", "vanes", "far"), [(TWIN, (0, 0), (3, 0)), (LOOP, (0,), (2,))]),
        "plan": (("skin", "vanes", "far"), [(TWIN, (0, 0), (2, 2)), (CUBE, (0, 0, 2, 1, 1, 1), (2, 0, 2, 1, 1, 1))]),
        "is_plan": (("skin", "vanes", "far", "thing"), [(TWIN, (0, 0), (1, 0), ((1, 1), (0, 1), (1, -1))),
                                                        (TWIN, (0, 0), (1, 0), ((0, 1), (0, 1)))]),
        "stuck": (("skin", "vanes", "far"), [(PILLOW, (0, 1), (1, 2)), (BRAID, HELD, FREE)]),
    },
    "lattice": {
        "lower": (("skin", "vanes", "far", "other"), [(TWIN, (0, 0), (1, 2), (3, 0)), (BRAID, HELD, FREE, FREE)]),
        "higher": (("skin", "vanes", "far", "other"), [(TWIN, (0, 0), (0, 3), (1, 0)), (BRAID, HELD, FREE, HELD)]),
        "depth": (("skin", "vanes"), [(CUBE, (0, 0, 2, 1, 1, 1)), (TWIN, (0, 0)), (PILLOW, (0, 1))]),
    },
    "heaps": {
        "is_heap": (("thing",), [(BEND,), (BEND[1:],), (ARCH,)]),
        "squares": (("heap",), [(BEND,), (ARCH,)]),
        "box": (("wide", "deep", "high"), [(3, 1, 2), (1, 1, 1)]),
        "is_pinched": (("heap",), [(BEND,), (ARCH,)]),
        "has_hollow": (("heap",), [(BEND,), (HOLLOW,)]),
        "skin_of": (("heap",), [(BEND,), (RING,)]),
        "points": (("heap",), [(BEND,), (RING,)]),
        "touched": (("heap", "cube"), [(RING, (1, 1, 0)), (ARCH, (1, 0, 0))]),
        "put_change": (("heap", "cube"), [(RING, (1, 1, 0)), (BEND, (0, 0, -1))]),
        "heap_mirrored": (("heap",), [(BEND,), (ARCH,)]),
    },
    "judge": {
        "is_claim": (("thing",), [(own,) for own in CLAIMS] + [(("x", LOOP, 0),)]),
        "is_so": (("claim",), [(own,) for own in CLAIMS]),
        "paper_against": (("claim",), [(own,) for own in CLAIMS]),
        "is_paper_against": (("claim", "thing"), [(("wish", CUBE, NEAR), ("ring", BELT)), (CLAIMS[-1], (1,)),
                                                  (CLAIMS[1], (5, 0, 3, 7, 2, 6, 1, 4)), (CLAIMS[0], ("sum",))]),
        "reason_for": (("claim",), [(own,) for own in CLAIMS]),
        "is_reason_for": (("claim", "thing"), [(CLAIMS[0], WILD), (("led", TWIN, (0, 0), (1, 0)), ((0, 1),)), (CLAIMS[3], (0, 0, 0, 0, 3, 1))]),
        "first_fallen": (("claims",), [(CLAIMS,), (CLAIMS[:1],), ((),)]),
    },
    "texts": {
        "sides_name": (("sides",), [((0, 3, 1, 2),), ((),)]),
        "ring_name": (("ring",), [(BELT,), (((-1, 10),),), ((),)]),
        "skin_text": (("skin",), [(TWIN,), (LOOP,)]),
        "plan_text": (("plan",), [(((3, 1), (0, -1)),), ((),)]),
        "heap_text": (("heap",), [(BEND,), (RING,)]),
        "sides_read": (("word",), [("esnw",), ("ex",), ("-",)]),
        "ring_read": (("word",), [("0.1,4.2",), ("0.1,",), ("-",)]),
        "read_skin": (("text",), [("field 0.2 0.3 0.0 0.1",)]),
        "read_plan": (("text",), [("turn 12 back\nturn 0 on\n",), ("",)]),
        "read_heap": (("text",), [("at 2 -1 0\n.#\n##",)]),
    },
}

LISTS = ("edges", "field_tree", "corner_tree", "loose", "rim_of", "all_vanes", "wishes", "lot")


def function_of(module, name):
    return getattr(importlib.import_module("whirlskin." + module), name)


def all_calls():
    """Each (name, function, names of its arguments, arguments)."""
    for module, functions in INTERFACE.items():
        for name, (names, rows) in functions.items():
            for values in rows:
                yield name, function_of(module, name), names, values


class Interface(unittest.TestCase):
    def test_each_function_stands_in_its_file_with_its_arguments(self):
        for module, functions in INTERFACE.items():
            for name, (names, _) in functions.items():
                with self.subTest(module=module, name=name):
                    function = function_of(module, name)
                    self.assertTrue(inspect.isfunction(function))
                    self.assertEqual(function.__module__, "whirlskin." + module)
                    self.assertEqual(function.__name__, name)
                    parameters = inspect.signature(function).parameters
                    self.assertEqual(tuple(parameters), names)
                    for own in parameters.values():
                        self.assertIs(own.kind, inspect.Parameter.POSITIONAL_OR_KEYWORD)
                        self.assertIs(own.default, inspect.Parameter.empty)

    def test_only_lists_where_lists_are_told(self):
        for name, function, _, values in all_calls():
            with self.subTest(name=name):
                told = function(*values)
                self.assertIs(isinstance(told, list), name in LISTS)
                self.assertNotIn("[", repr(tuple(told) if isinstance(told, list) else told))


class Calls(unittest.TestCase):
    """Answers are compared by repr: so a list is no tuple, and True is not 1."""

    def test_by_names(self):
        for name, function, names, values in all_calls():
            with self.subTest(name=name):
                told = repr(function(*values))
                self.assertEqual(repr(function(**dict(zip(names, values)))), told)
                self.assertEqual(repr(function(**dict(list(zip(names, values))[::-1]))), told)

    def test_with_lists_for_tuples_at_each_depth(self):
        for name, function, names, values in all_calls():
            told = repr(function(*values))
            for at, own in enumerate(names):
                if own == "thing":
                    continue
                for value in in_lists(values[at]):
                    with self.subTest(name=name, value=value):
                        given = values[:at] + (value,) + values[at + 1:]
                        before = repr(given)
                        self.assertEqual(repr(function(*given)), told)
                        self.assertEqual(repr(function(**dict(zip(names, given)))), told)
                        self.assertEqual(repr(given), before)

    def test_with_lists_for_all_tuples_at_once(self):
        for name, function, names, values in all_calls():
            with self.subTest(name=name):
                given = [value if own == "thing" else relisted(value, range(9)) for own, value in zip(names, values)]
                before = copy.deepcopy(given)
                self.assertEqual(repr(function(*given)), repr(function(*values)))
                self.assertEqual(given, before)

    def test_a_thing_with_a_list_for_a_tuple_is_none(self):
        for name, function, names, values in all_calls():
            if "thing" in names:
                for value in in_lists(values[-1]):
                    with self.subTest(name=name, value=value):
                        before = repr(value)
                        self.assertIs(function(*values[:-1], value), False)
                        self.assertEqual(repr(value), before)

    def test_a_returned_list_belongs_to_the_caller(self):
        for name, function, _, values in all_calls():
            if name in LISTS:
                with self.subTest(name=name):
                    told = function(*values)
                    before = list(told)
                    told.append("more")
                    told.reverse()
                    self.assertEqual(function(*values), before)
                    self.assertIsNot(function(*values), function(*values))

    def test_returned_values_may_be_passed_in_again(self):
        moves, skins, rings, vanes, lots, lays = [importlib.import_module("whirlskin." + own)
                                                  for own in ("moves", "skins", "rings", "vanes", "lots", "lays")]
        both = moves.sewn_together(CUBE, 0, moves.mirrored(CUBE), 5, 2)
        self.assertTrue(skins.is_skin(skins.least_form(both)))
        self.assertEqual(rings.rest(both, rings.corner_ring(both, 0)), 0)
        self.assertTrue(vanes.are_vanes(TWIN, vanes.all_turned(TWIN, vanes.with_vane(TWIN, (0, 1), 1, 0), 2)))
        self.assertEqual(lots.many(CUBE, lots.wishes(CUBE)[3]), 12)
        self.assertTrue(lays.is_bar(CUBE, NEAR, lays.bar(CUBE, NEAR)))
        gaps, plans, lattice = [importlib.import_module("whirlskin." + own) for own in ("gaps", "plans", "lattice")]
        self.assertEqual(gaps.by_gap(BRAID, HELD, gaps.gap(BRAID, HELD, FREE)), FREE)
        self.assertTrue(gaps.is_tight_ring(BRAID, FREE, gaps.tight_ring(BRAID, HELD, 3)))
        self.assertTrue(plans.is_plan(TWIN, (0, 0), (2, 2), plans.plan(TWIN, (0, 0), (2, 2))))
        heaps, judge, texts = [importlib.import_module("whirlskin." + own) for own in ("heaps", "judge", "texts")]
        self.assertTrue(judge.is_paper_against(CLAIMS[-1], judge.paper_against(CLAIMS[-1])))
        self.assertTrue(heaps.is_heap(texts.read_heap(texts.heap_text(heaps.heap_mirrored(heaps.box(2, 3, 1))))))
        self.assertEqual(texts.read_skin(texts.skin_text(heaps.skin_of(BEND))), heaps.skin_of(BEND))
        self.assertEqual(lattice.lower(TWIN, (0, 0), lattice.higher(TWIN, (0, 0), (1, 2), (3, 0)), (1, 2)), (1, 2))


if __name__ == "__main__":
    unittest.main()
