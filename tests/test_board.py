"""Promise [23]: board.py."""

import inspect
import unittest

from tests.kinds import not_skins, relisted
from tests.samples import BRAID, CUBE, Dice, LOOP, PAIR, PILLOW, TWIN, heap_skins, skins_with_vanes, vanes_on
from tests.walks import free_turns, gone_by, not_vanes, turned_on, walked
from whirlskin.board import Board
from whirlskin.errors import Broken, CanNot, NoField, NothingDone, Unfit
from whirlskin.plans import can_lead, fewest
from whirlskin.quarters import quarters
from whirlskin.vanes import all_turned
from whirlskin.whirls import whirls, wish_of

STILL = (0, 0, 2, 1, 1, 1)


class Book:
    """What a Board has to tell, kept by hand: deeds done and deeds taken back."""

    def __init__(self, skin, vanes):
        self.skin, self.start, self.done, self.back = skin, vanes, [], []

    def now(self):
        return gone_by(self.skin, self.start, self.plan())

    def plan(self):
        return tuple(pair for _, row in self.done for pair in row)

    def do(self, name, row):
        self.done.append((name, tuple(row)))
        self.back = []

    def copy(self):
        other = Book(self.skin, self.start)
        other.done, other.back = list(self.done), list(self.back)
        return other


def looks(board):
    return (board.skin(), board.first(), board.vanes(), board.plan(), board.whirls_now(), board.quarters_now(),
            board.fewest_now())


def boards():
    dice = Dice(160)
    rows = skins_with_vanes()[::9] + [(skin, vanes_on(skin, dice)) for skin in heap_skins()[:5]]
    return rows + [(CUBE, STILL), (TWIN, (0, 0)), (PILLOW, (0, 1)), (LOOP, (2,)), (BRAID, (1, 2, 1, 3, 2))]


class Rows(unittest.TestCase):
    """Rows of deeds of all kinds beside a book of them."""

    def test_rows_of_deeds(self):
        dice, self.seen = Dice(161), {}
        for skin, vanes in boards():
            pairs = [(Board(skin, vanes), Book(skin, vanes))]
            wish = wish_of(skin, vanes)
            for _ in range(30):
                at = dice.below(len(pairs))
                self.do_one(dice, *pairs[at])
                if dice.below(12) == 0 and len(pairs) < 4:
                    pairs.append((pairs[at][0].twin(), pairs[at][1].copy()))
                for board, book in pairs:
                    self.assertEqual((board.skin(), board.first()), (skin, vanes))
                    self.assertEqual((board.vanes(), board.plan()), (book.now(), book.plan()))
                self.assertEqual(wish_of(skin, pairs[at][0].vanes()), wish)
            for board, book in pairs:
                self.look_at(board, book)
                for other, page in pairs:
                    self.assertIs(board == other, book.now() == page.now())
                    self.assertIs(board != other, book.now() != page.now())
        self.assertGreater(min(self.seen.values()), 20, self.seen)
        self.assertEqual(len(self.seen), 12, self.seen)

    def look_at(self, board, book):
        skin, now = book.skin, book.now()
        self.assertEqual(board.whirls_now(), whirls(skin, now))
        self.assertEqual(board.quarters_now(), quarters(skin, now))
        self.assertEqual(board.fewest_now(), fewest(skin, book.start, now))
        more = len(board.plan()) - board.fewest_now()
        self.assertTrue(more >= 0 and more % 2 == 0)

    def do_one(self, dice, board, book):
        """One deed at haphazard, or one that is refused."""
        kinds = (self.turn, self.turn, self.follow, self.lead_to, self.undo, self.undo, self.redo, self.redo,
                 self.bad_turn, self.bad_follow, self.bad_lead)
        told = dice.pick(kinds)(dice, board, book)
        self.seen[told] = self.seen.get(told, 0) + 1

    def turn(self, dice, board, book):
        pairs = free_turns(book.skin, book.now())
        if not pairs:
            return "none"
        pair = dice.pick(pairs)
        self.assertIsNone(board.turn(*pair))
        book.do("turn", (pair,))
        return "turn"

    def follow(self, dice, board, book):
        row, _ = walked(dice, book.skin, book.now(), dice.below(5))
        self.assertIsNone(board.follow(list(row) if dice.below(2) else row))
        book.do("follow", row)
        return "follow"

    def lead_to(self, dice, board, book):
        now = book.now()
        _, far = walked(dice, book.skin, now, dice.below(9))
        before = len(book.plan())
        told = board.lead_to(list(far) if dice.below(2) else far)
        row = board.plan()[before:]
        self.assertEqual((told, len(row)), (fewest(book.skin, now, far), told))
        self.assertEqual(gone_by(book.skin, now, row), far)
        book.do("lead_to", row)
        return "lead_to"

    def undo(self, dice, board, book):
        if not book.done:
            self.refused(board, NothingDone, board.undo)
            return "nothing to undo"
        deed = book.done.pop()
        book.back.append(deed)
        self.assertEqual(board.undo(), deed[0])
        return "undo"

    def redo(self, dice, board, book):
        if not book.back:
            self.refused(board, NothingDone, board.redo)
            return "nothing to redo"
        deed = book.back.pop()
        book.done.append(deed)
        self.assertEqual(board.redo(), deed[0])
        return "redo"

    def refused(self, board, error, call, *values):
        before = looks(board)
        with self.assertRaises(error) as caught:
            call(*values)
        self.assertIs(type(caught.exception), error)
        self.assertEqual(looks(board), before)
        return caught.exception

    def bad_turn(self, dice, board, book):
        many = len(book.skin)
        field = dice.pick((-1, many, many + 3, -many - 1, 10 ** 6))
        self.assertEqual(self.refused(board, NoField, board.turn, field, dice.below(5) - 2).field, field)
        self.refused(board, Unfit, board.turn, dice.below(many), dice.pick((0, 2, -2, 3, 5, -3, 10 ** 6)))
        free = free_turns(book.skin, book.now())
        held = [(one, way) for one in range(many) for way in (1, -1) if (one, way) not in free]
        if held:
            self.refused(board, CanNot, board.turn, *dice.pick(held))
        return "refused turn"

    def bad_follow(self, dice, board, book):
        row, now = walked(dice, book.skin, book.now(), dice.below(4))
        free = free_turns(book.skin, now)
        held = [(one, way) for one in range(len(book.skin)) for way in (1, -1) if (one, way) not in free]
        for pair in held[:2] + [(len(book.skin), 1), (-1, 1), (0, 0), (0, 2)]:
            told = self.refused(board, Broken, board.follow, row + (pair, (99, 99)))
            self.assertEqual(told.place, len(row))
        return "refused follow"

    def bad_lead(self, dice, board, book):
        now = book.now()
        self.refused(board, Unfit, board.lead_to, dice.pick(not_vanes(book.skin)))
        far = all_turned(book.skin, now, 1)
        if not can_lead(book.skin, now, far):
            self.refused(board, CanNot, board.lead_to, far)
            return "refused lead_to, tight"
        return "refused lead_to"


class Deeds(unittest.TestCase):
    def test_what_can_be_done_again_stays_after_a_refusal(self):
        desk = Board(CUBE, STILL)
        desk.turn(0, 1)
        desk.undo()
        for error, call, values in ((CanNot, desk.turn, (0, -1)), (CanNot, desk.turn, (1, 1)), (NoField, desk.turn, (6, 1)), (Unfit, desk.turn, (0, 0)),
                                    (Broken, desk.follow, (((0, 1), (0, 1), (0, 1)),)), (CanNot, desk.lead_to, ((1, 1, 3, 2, 2, 2),)),
                                    (Unfit, desk.lead_to, ((0,) * 6,)), (Unfit, desk.lead_to, (None,)), (NothingDone, desk.undo, ())):
            self.assertRaises(error, call, *values)
        self.assertEqual((desk.redo(), desk.vanes()), ("turn", (1, 0, 2, 1, 1, 1)))

    def test_deeds_with_no_quarter_are_deeds(self):
        desk = Board(TWIN, (0, 0))
        self.assertEqual((desk.follow(()), desk.lead_to((0, 0)), desk.follow([])), (None, 0, None))
        self.assertEqual((desk.plan(), desk.vanes(), desk.fewest_now()), ((), (0, 0), 0))
        self.assertEqual([desk.undo() for _ in range(3)], ["follow", "lead_to", "follow"])
        self.assertRaises(NothingDone, desk.undo)
        self.assertEqual([desk.redo() for _ in range(3)], ["follow", "lead_to", "follow"])
        self.assertRaises(NothingDone, desk.redo)
        # One with no QUARTER forgets what could be done again, too.
        for empty in (lambda own: own.follow(()), lambda own: own.lead_to(own.vanes())):
            other = Board(TWIN, (0, 0))
            other.turn(0, 1)
            other.undo()
            empty(other)
            self.assertRaises(NothingDone, other.redo)
            self.assertEqual(other.vanes(), (0, 0))

    def test_nothing_done(self):
        for skin, vanes in boards()[::5]:
            desk = Board(skin, vanes)
            self.assertRaises(NothingDone, desk.undo)
            self.assertRaises(NothingDone, desk.redo)
            self.assertEqual(looks(desk)[:4], (skin, vanes, vanes, ()))

    def test_undo_and_redo_many(self):
        desk, dice = Board(PAIR, (0, 0, 0)), Dice(162)
        for _ in range(10):
            desk.turn(*dice.pick(free_turns(PAIR, desk.vanes())))
            desk.follow(walked(dice, PAIR, desk.vanes(), 4)[0])
            desk.lead_to(walked(dice, PAIR, desk.vanes(), 6)[1])
        rows = [(desk.vanes(), desk.plan())]
        names = []
        for _ in range(30):
            names.append(desk.undo())
            rows.append((desk.vanes(), desk.plan()))
        self.assertEqual(names, ["lead_to", "follow", "turn"] * 10)
        self.assertEqual(rows[-1], ((0, 0, 0), ()))
        for row, name in zip(rows[-2::-1], names[::-1]):
            self.assertEqual(desk.redo(), name)
            self.assertEqual((desk.vanes(), desk.plan()), row)
        desk.undo()
        desk.turn(*free_turns(PAIR, desk.vanes())[0])
        self.assertRaises(NothingDone, desk.redo)
        self.assertEqual(desk.undo(), "turn")

    def test_three_hundred_quarters(self):
        desk, dice = Board(CUBE, STILL), Dice(163)
        for _ in range(100):
            desk.turn(*dice.pick(free_turns(CUBE, desk.vanes())))
            desk.follow(walked(dice, CUBE, desk.vanes(), 2)[0])
        self.assertEqual(len(desk.plan()), 300)
        self.assertEqual(gone_by(CUBE, STILL, desk.plan()), desk.vanes())
        self.assertEqual(desk.fewest_now() % 2, 0)

    def test_lead_to_once_more_and_far(self):
        desk = Board(LOOP, (0,))
        self.assertEqual([desk.lead_to((own,)) for own in (1, 3, 0, 0, 2)], [1, 2, 1, 0, 2])
        self.assertEqual((len(desk.plan()), desk.fewest_now()), (6, 2))

    def test_which_refusal_comes_first(self):
        desk = Board(PILLOW, (0, 1))
        for way in (1, -1, 0, 2, 10 ** 6):
            with self.assertRaises(NoField) as caught:
                desk.turn(2, way)
            self.assertEqual(caught.exception.field, 2)
        for way in (0, 2, -2, 3):
            self.assertRaises(Unfit, desk.turn, 0, way)
        self.assertRaises(CanNot, desk.turn, 0, 1)
        # Of another WISH: Unfit() ahead of CanNot(), though no PLAN leads there.
        self.assertRaises(Unfit, desk.lead_to, (0, 3))
        self.assertRaises(CanNot, desk.lead_to, (1, 2))
        for bad in not_vanes(PILLOW):
            self.assertRaises(Unfit, desk.lead_to, bad)

    def test_broken_at_each_place(self):
        for plan, place in ((((0, 1), (0, 1)), 1), (((2, 1),), 0), (((-1, 1),), 0), (((0, 2),), 0), (((0, 1), (1, 1), (0, 0), (5, 5)), 2),
                            ([[0, 1], [0, 1]], 1), (((0, 10 ** 6),), 0)):
            desk = Board(TWIN, (0, 0))
            with self.assertRaises(Broken) as caught:
                desk.follow(plan)
            self.assertEqual(caught.exception.place, place)
            self.assertEqual((desk.vanes(), desk.plan()), ((0, 0), ()))
            self.assertRaises(NothingDone, desk.undo)


class Twins(unittest.TestCase):
    def test_twins_go_their_own_way(self):
        desk = Board(TWIN, (0, 0))
        desk.follow(((0, 1), (1, 1)))
        desk.turn(0, -1)
        desk.undo()
        mate = desk.twin()
        self.assertIs(type(mate), Board)
        self.assertEqual(looks(mate), looks(desk))
        self.assertIs(mate == desk, True)
        self.assertEqual((mate.redo(), mate.vanes(), desk.vanes()), ("turn", (0, 1), (1, 1)))
        self.assertIs(mate == desk, False)
        self.assertEqual((desk.redo(), desk.undo(), desk.undo()), ("turn", "turn", "follow"))
        self.assertEqual((desk.vanes(), mate.vanes(), mate.plan()), ((0, 0), (0, 1), ((0, 1), (1, 1), (0, -1))))
        self.assertEqual((mate.undo(), mate.undo()), ("turn", "follow"))
        self.assertRaises(NothingDone, mate.undo)
        self.assertIs(mate == desk, True)
        desk.turn(1, 1)
        self.assertRaises(NothingDone, desk.redo)
        self.assertEqual((mate.redo(), mate.redo(), mate.vanes()), ("follow", "turn", (0, 1)))
        self.assertEqual(desk.undo(), "turn")

    def test_equal_by_skin_first_and_vanes_alone(self):
        desk, mate = Board(TWIN, (0, 0)), Board(TWIN, (0, 0))
        self.assertIs(desk == mate, True)
        self.assertIs(desk != mate, False)
        # Other deeds that come to the same: equal all the same.
        desk.follow(((1, 1), (1, -1)))
        mate.lead_to((1, 0))
        mate.turn(0, -1)
        self.assertIs(desk == mate, True)
        self.assertIs(desk == Board(TWIN, (1, 0)), False)
        one, two = Board(TWIN, (1, 0)), Board(TWIN, (0, 0))
        two.turn(0, 1)
        self.assertEqual(one.vanes(), two.vanes())
        self.assertEqual((one == two, one != two), (False, True))
        self.assertIs(Board(LOOP, (0,)) == Board((((0, 1), (0, 0), (0, 3), (0, 2)),), (0,)), False)

    def test_not_equal_to_what_is_no_board(self):
        desk = Board(TWIN, (0, 0))
        for thing in (None, True, False, 0, "", (), [], TWIN, (0, 0), (TWIN, (0, 0), (0, 0)), desk.plan(), looks(desk), object(),
                      Book(TWIN, (0, 0)), Board, {}):
            self.assertIs(desk == thing, False)
            self.assertIs(thing == desk, False)
            self.assertIs(desk != thing, True)
        self.assertIn(Board(TWIN, (0, 0)), [0, desk])


class Handed(unittest.TestCase):
    def test_no_skin_ahead_of_no_vanes(self):
        for skin in not_skins():
            for vanes in ((0,), None):
                self.assertRaises(Unfit, Board, skin, vanes)
        for skin in (LOOP, TWIN, PILLOW, CUBE):
            for vanes in not_vanes(skin):
                with self.subTest(skin=skin, vanes=vanes):
                    self.assertRaises(Unfit, Board, skin, vanes)

    def test_lists_and_what_is_changed_later(self):
        for depths in ((0,), (1,), (2,), (0, 1), (0, 2), (1, 2), (0, 1, 2)):
            skin, vanes = relisted(TWIN, depths), [0, 0]
            before = repr(skin)
            desk = Board(skin=skin, vanes=vanes)
            self.assertEqual((desk.skin(), desk.first(), desk.vanes()), (TWIN, (0, 0), (0, 0)))
            self.assertEqual((repr(skin), vanes), (before, [0, 0]))
            vanes[0] = 3
            if isinstance(skin, list):
                skin[0] = skin[1]
                skin.append(())
            for row in skin:
                if isinstance(row, list) and row:
                    row[0] = row[1]
            self.assertEqual((desk.skin(), desk.first(), desk.vanes()), (TWIN, (0, 0), (0, 0)))
            self.assertIs(desk == Board(TWIN, (0, 0)), True)

    def test_plans_and_vanes_that_are_changed_later(self):
        desk = Board(TWIN, (0, 0))
        plan, far = [[0, 1], [1, 1]], [0, 1]
        desk.follow(plan)
        desk.lead_to(far)
        kept = looks(desk)
        self.assertEqual((plan, far), ([[0, 1], [1, 1]], [0, 1]))
        plan[0][1], far[0] = 7, 9
        plan.clear()
        self.assertEqual(looks(desk), kept)
        self.assertEqual((desk.undo(), desk.undo(), desk.redo(), desk.plan()), ("lead_to", "follow", "follow", ((0, 1), (1, 1))))

    def test_by_names(self):
        desk = Board(vanes=(0, 0), skin=TWIN)
        self.assertIsNone(desk.turn(way=1, field=0))
        self.assertIsNone(desk.follow(plan=((1, 1),)))
        self.assertEqual(desk.lead_to(far=(2, 2)), 2)
        names = {"turn": ["field", "way"], "follow": ["plan"], "lead_to": ["far"]}
        names.update({own: [] for own in ("undo", "redo", "skin", "first", "vanes", "plan", "whirls_now", "quarters_now", "fewest_now",
                                          "twin")})
        for name, told in names.items():
            self.assertIn(name, vars(Board))
            self.assertEqual(list(inspect.signature(getattr(desk, name)).parameters), told)
        self.assertEqual(list(inspect.signature(Board).parameters), ["skin", "vanes"])
        self.assertEqual((Board.__module__, Board.__bases__), ("whirlskin.board", (object,)))
        self.assertIn("__eq__", vars(Board))

    def test_looks_change_nothing_and_are_told_alike(self):
        desk = Board(PAIR, (0, 0, 0))
        desk.turn(0, 1)
        self.assertEqual(repr(looks(desk)), repr(looks(desk)))
        for own in looks(desk)[:-1]:
            self.assertIsInstance(own, tuple)
            self.assertNotIn("[", repr(own))
        self.assertIs(type(desk.fewest_now()), int)
        self.assertEqual(turned_on((0, 0, 0), 0, 1), desk.vanes())


if __name__ == "__main__":
    unittest.main()
