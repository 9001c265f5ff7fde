"""VANES gone through QUARTER by QUARTER, and their STEPS looked at, without what is tested with it."""

from tests.kinds import NOTHINGS, endless
from tests.samples import Dice, crossings, every_vanes, heap_skins, skins_with_vanes, small_skins, step_of, vanes_on
from whirlskin.lays import lay
from whirlskin.whirls import wish_of


def turned_on(vanes, field, way):
    return vanes[:field] + ((vanes[field] + way) % 4,) + vanes[field + 1:]


def next_ones(had, vanes):
    """Pairs of a QUARTER and the VANES that come: those that are among all VANES."""
    pairs = [(field, way) for field in range(len(vanes)) for way in (-1, 1)]
    return [(pair, turned_on(vanes, *pair)) for pair in pairs if turned_on(vanes, *pair) in had]


def distances(had, vanes):
    """For all VANES that PLANS lead to, by how few QUARTERS they do."""
    told, row = {vanes: 0}, [vanes]
    for own in row:
        for _, other in next_ones(had, own):
            if other not in told:
                told[other] = told[own] + 1
                row.append(other)
    return told


def lots_of(skin):
    """For each WISH that some VANES have, all VANES that have it."""
    lots = {}
    for vanes in every_vanes(skin):
        lots.setdefault(wish_of(skin, vanes), []).append(vanes)
    return lots


def small_lots(most=6, few=6):
    """Triples of a small SKIN, the set of all its VANES, the VANES of one WISH; of each SKIN some WISHES."""
    rows = []
    for skin in small_skins(most):
        lots = lots_of(skin)
        had = {vanes for lot in lots.values() for vanes in lot}
        for wish in sorted(lots)[::len(lots) // few + 1]:
            rows.append((skin, had, lots[wish]))
    return rows


def difference(skin, vanes, far):
    """Numbers on FIELDS that go with the differences of STEPS, from 0 to 3 on FIELD 0; None if there are none."""
    numbers, row = {0: (far[0] - vanes[0]) % 4}, [0]
    for field in row:
        for side in range(4):
            other = skin[field][side][0]
            more = step_of(skin, far, (field, side)) - step_of(skin, vanes, (field, side))
            if other not in numbers:
                numbers[other] = numbers[field] + more
                row.append(other)
            elif numbers[other] != numbers[field] + more:
                return None
    return tuple(numbers[field] for field in range(len(skin)))


def pairs_of_lots():
    """Triples of a SKIN, large ones too, and two VANES of one WISH, most of them unlike."""
    dice, rows = Dice(100), []
    larger = [(skin, vanes_on(skin, dice)) for skin in heap_skins()]
    for skin, vanes in skins_with_vanes()[::2] + larger:
        wish = wish_of(skin, vanes)
        found = [walked(dice, skin, vanes, 30)[1], lay(skin, wish), tuple((own + 3) % 4 for own in lay(skin, wish))]
        for far in found:
            rows.append((skin, vanes, far))
            rows.append((skin, far, vanes))
    return rows


def free_turns(skin, vanes):
    """The QUARTERS of VANES, by the STEPS at each FIELD."""
    return [(field, way) for field in range(len(skin)) for way in (-1, 1)
            if all(step_of(skin, turned_on(vanes, field, way), (field, side)) != 2 for side in range(4))]


def walked(dice, skin, vanes, long):
    """A PLAN at haphazard and the VANES that come."""
    plan = []
    for _ in range(long):
        pairs = free_turns(skin, vanes)
        if not pairs:
            break
        plan.append(dice.pick(pairs))
        vanes = turned_on(vanes, *plan[-1])
    return tuple(plan), vanes


def stands(skin, sides):
    return all(step_of(skin, sides, own) != 2 for own in crossings(skin))


def gone_by(skin, vanes, plan):
    """The VANES behind plan; None if some pair of it is no QUARTER in its turn."""
    for field, way in plan:
        if way not in (1, -1) or (field, way) not in free_turns(skin, vanes):
            return None
        vanes = turned_on(vanes, field, way)
    return vanes


def straight_ways(skin, vanes):
    """The CROSSINGS that lead to another FIELD by a STEP of 1."""
    return [own for own in crossings(skin) if skin[own[0]][own[1]][0] != own[0] and step_of(skin, vanes, own) == 1]


def tight_by_hand(skin, vanes):
    """FIELDS from which one comes home over such CROSSINGS, by joining ways till nothing new comes."""
    reach = {field: {skin[own[0]][own[1]][0] for own in straight_ways(skin, vanes) if own[0] == field}
             for field in range(len(skin))}
    more = True
    while more:
        more = False
        for field in reach:
            wide = reach[field].union(*[reach[other] for other in reach[field]])
            if wide != reach[field]:
                reach[field], more = wide, True
    return tuple(field for field in sorted(reach) if field in reach[field])


def rooms_by_hand(skin, vanes, start):
    """For each FIELD the most that it can have come on more than start: lowered till no STEP is above 1."""
    rooms = [0 if field == start else 10 ** 9 for field in range(len(skin))]
    for _ in skin:
        for field, side in crossings(skin):
            other = skin[field][side][0]
            rooms[other] = min(rooms[other], rooms[field] + 1 - step_of(skin, vanes, (field, side)))
    return rooms


def not_vanes(skin):
    """What looks like VANES of skin at first sight, and is none."""
    rows = [(0,) * (len(skin) + 1), (0,) * (len(skin) - 1), "0" * len(skin), ((0,) * len(skin),)]
    rows += [(own,) * len(skin) for own in (4, -1, True, False, None, "0", (0,), 10 ** 30)]
    dice = Dice(101)
    for _ in range(30):
        sides = tuple(dice.below(4) for _ in skin)
        if not stands(skin, sides):
            rows.append(sides)
    return [own for own in NOTHINGS + rows + [endless()] if not (len(skin) == 1 and own == (0,))]
