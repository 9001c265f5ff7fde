"""WISHES of unlike kinds, and what looks like one."""

from tests.kinds import NOTHINGS
from whirlskin.corners import lacks, x_of
from whirlskin.rings import rest
from whirlskin.trees import handle_rings


def whirls_on(dice, skin, spread):
    """Whirls that come to X, unlike by so much or so."""
    whirls = [dice.below(2 * spread + 1) - spread for _ in lacks(skin)]
    whirls[dice.below(len(whirls))] += x_of(skin) - sum(whirls)
    return tuple(whirls)


def turnings_on(dice, skin, spread):
    """Turnings that leave no REST."""
    return tuple(4 * (dice.below(2 * spread + 1) - spread) - rest(skin, ring) for ring in handle_rings(skin))


def wish_on(dice, skin, spread):
    """A WISH that neither the sum nor a REST bars."""
    return whirls_on(dice, skin, spread), turnings_on(dice, skin, spread)


def plain_wish(skin):
    """A WISH by its form, of whatever sum."""
    return (0,) * len(lacks(skin)), (0,) * len(handle_rings(skin))


def changed_at(row, at, value):
    return row[:at] + (value,) + row[at + 1:]


def nearly_whirls(skin):
    """What is no tuple with a number for each CORNER."""
    whirls = plain_wish(skin)[0]
    cells = (None, True, False, "0", (), (0,), 1.0, "")
    return [whirls + (0,), whirls[:-1], whirls * 2, "0" * len(whirls), set(whirls),
            dict.fromkeys(range(len(whirls)), 0), range(len(whirls))] + [changed_at(whirls, at, own) for own in cells for at in (0, len(whirls) - 1)]


def nearly_wishes(skin):
    """What looks like a WISH of skin at first sight."""
    whirls, turnings = plain_wish(skin)
    rows = [(own, turnings) for own in nearly_whirls(skin)]
    rows += [(whirls,), (whirls, turnings, ()), (whirls, turnings, turnings), ((whirls, turnings),), whirls,
             whirls + turnings, (turnings, whirls, whirls), (whirls, turnings + (0,)), (whirls, turnings + (None,)), (whirls, 0),
             (whirls, None), (whirls, "00"[:len(turnings)] or "x"), (whirls, (turnings,)), {0: whirls, 1: turnings}]
    if turnings:
        rows += [(whirls, turnings[1:]), (whirls, ()), (whirls, changed_at(turnings, 0, True)),
                 (whirls, changed_at(turnings, 0, None)), (whirls, changed_at(turnings, 0, ())),
                 (whirls, changed_at(turnings, 0, "0"))]
    if len(turnings) != len(whirls):
        rows.append((turnings, whirls))
    return NOTHINGS + rows
