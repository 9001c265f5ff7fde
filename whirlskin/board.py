"""A Board: a SKIN and VANES of it that are turned by quarters, back and on again."""

from whirlskin.errors import CanNot, NothingDone
from whirlskin.forms import as_tuples
from whirlskin.gaps import given_lot
from whirlskin.plans import fewest_by, shortest
from whirlskin.quarters import behind_plan, quarters, turned
from whirlskin.skins import given_skin
from whirlskin.vanes import given_vanes
from whirlskin.whirls import whirls


class Board:
    """VANES that are turned by deeds, all of which can be taken back and done again."""

    def __init__(self, skin, vanes):
        self._skin = given_skin(skin)
        self._first = given_vanes(self._skin, vanes)
        self._vanes = self._first
        # Deeds are triples: the name, the QUARTERS, and the VANES to go to when the deed changes its list.
        self._done = []
        self._undone = []

    def turn(self, field, way):
        """Turn the vane of field by one QUARTER; NoField(field), Unfit(), CanNot() as turned."""
        self._do("turn", ((field, way),), turned(self._skin, self._vanes, field, way))

    def follow(self, plan):
        """Turn all QUARTERS of plan, as one deed; Broken(place) as behind."""
        row = as_tuples(plan, (None, 2))
        self._do("follow", row, behind_plan(self._skin, self._vanes, row))

    def lead_to(self, far):
        """Turn the QUARTERS of a PLAN of fewest that leads to far, as one deed; return how many these are."""
        _, beyond = given_lot(self._skin, (self._vanes, far))
        row = shortest(self._skin, self._vanes, beyond)
        if row is None:
            raise CanNot()
        self._do("lead_to", row, beyond)
        return len(row)

    def _do(self, name, row, vanes):
        """Keep a new deed, by which vanes have come."""
        self._done.append((name, row, self._vanes))
        self._undone = []
        self._vanes = vanes

    def undo(self):
        """Take the last deed back; return its name; NothingDone() if there is none."""
        return self._move(self._done, self._undone)

    def redo(self):
        """Do the last deed that is taken back again; return its name; NothingDone() if there is none."""
        return self._move(self._undone, self._done)

    def _move(self, deeds, others):
        """Move the last deed from one list to the other one; return its name."""
        if not deeds:
            raise NothingDone()
        name, row, vanes = deeds.pop()
        others.append((name, row, self._vanes))
        self._vanes = vanes
        return name

    def skin(self):
        """The SKIN."""
        return self._skin

    def first(self):
        """The VANES that were handed in."""
        return self._first

    def vanes(self):
        """The VANES now."""
        return self._vanes

    def plan(self):
        """The PLAN of all QUARTERS that are done and not taken back."""
        return tuple([pair for deed in self._done for pair in deed[1]])

    def whirls_now(self):
        """The WHIRLS of the VANES now."""
        return whirls(self._skin, self._vanes)

    def quarters_now(self):
        """The set of the QUARTERS of the VANES now."""
        return quarters(self._skin, self._vanes)

    def fewest_now(self):
        """How many QUARTERS a PLAN from the first VANES to those now has at the least."""
        return fewest_by(self._skin, self._first, self._vanes)

    def twin(self):
        """Another Board that holds the same, with all that can be taken back and done again."""
        other = Board(self._skin, self._first)
        other._vanes = self._vanes
        other._done = list(self._done)
        other._undone = list(self._undone)
        return other

    def __eq__(self, other):
        return (isinstance(other, Board) and self._skin == other._skin and self._first == other._first
                and self._vanes == other._vanes)
