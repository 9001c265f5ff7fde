"""SKINS, RINGS and VANES of unlike kinds, made without the package, the same in each run."""

import itertools

LOOP = (((0, 2), (0, 3), (0, 0), (0, 1)),)
TWIN = (((1, 2), (0, 3), (1, 0), (0, 1)), ((0, 2), (1, 3), (0, 0), (1, 1)))
PILLOW = (((1, 0), (1, 3), (1, 2), (1, 1)), ((0, 0), (0, 3), (0, 2), (0, 1)))
WHEEL = (((1, 0), (1, 1), (1, 3), (1, 2)), ((0, 0), (0, 1), (0, 3), (0, 2)))
TWIST = (((1, 1), (1, 0), (1, 2), (1, 3)), ((0, 1), (0, 0), (0, 2), (0, 3)))
PAIR = (((1, 1), (1, 2), (2, 3), (1, 0)), ((0, 3), (0, 0), (0, 1), (2, 1)), ((2, 2), (1, 3), (2, 0), (0, 2)))
CROOK = (((0, 3), (2, 0), (1, 3), (0, 0)), ((1, 2), (2, 1), (1, 0), (0, 2)), ((0, 1), (1, 1), (2, 3), (2, 2)))
BRAID = (((3, 0), (4, 0), (2, 0), (1, 1)), ((4, 1), (0, 3), (3, 2), (3, 1)), ((0, 2), (4, 3), (4, 2), (3, 3)),
         ((0, 0), (1, 3), (1, 2), (2, 3)), ((0, 1), (1, 0), (2, 2), (2, 1)))
CUBE = (((4, 2), (3, 3), (1, 3), (2, 2)), ((3, 2), (5, 3), (2, 3), (0, 2)), ((5, 2), (4, 3), (0, 3), (1, 2)),
        ((4, 1), (5, 0), (1, 0), (0, 1)), ((5, 1), (3, 0), (0, 0), (2, 1)), ((3, 1), (4, 0), (2, 0), (1, 1)))
# One FIELD, its neighbouring SIDES sewn together: two CORNERS of one pair, one of two.
CONE = (((0, 1), (0, 0), (0, 3), (0, 2)),)
NAMED = (LOOP, CONE, TWIN, PILLOW, WHEEL, TWIST, PAIR, CROOK, BRAID, CUBE)


class Dice:
    """Numbers that look thrown and are the same in each run, on each Python."""

    def __init__(self, seed):
        self.state = seed * 7919 + 17

    def below(self, many):
        self.state = (self.state * 6364136223846793005 + 1442695040888963407) % 2 ** 64
        return (self.state >> 33) % many

    def pick(self, rows):
        return rows[self.below(len(rows))]

    def mixed(self, rows):
        left, out = list(rows), []
        while left:
            out.append(left.pop(self.below(len(left))))
        return out


def crossings(skin):
    return [(field, side) for field in range(len(skin)) for side in range(4)]


def from_seams(seams, many):
    """The tuple of rows of what is sewn, by a dict of CROSSINGS."""
    return tuple(tuple(seams[field, side] for side in range(4)) for field in range(many))


def hangs_together(skin):
    left, reached = [0], {0}
    while left:
        for other, _ in skin[left.pop()]:
            if other not in reached:
                reached.add(other)
                left.append(other)
    return len(reached) == len(skin)


def pairings(rows):
    """Each way to put rows, an even number, into pairs."""
    if not rows:
        yield []
        return
    first = rows[0]
    for at in range(1, len(rows)):
        rest = rows[1:at] + rows[at + 1:]
        for others in pairings(rest):
            yield [(first, rows[at])] + others


def sewn_by(pairs, many):
    seams = {}
    for one, two in pairs:
        seams[one], seams[two] = two, one
    return from_seams(seams, many)


def all_skins(many):
    """All SKINS of so many FIELDS: 3 of one, 96 of two."""
    rows = [(field, side) for field in range(many) for side in range(4)]
    made = [sewn_by(pairs, many) for pairs in pairings(rows)]
    return [skin for skin in made if hangs_together(skin)]


def thrown_skin(dice, many):
    """A SKIN of so many FIELDS, sewn at haphazard: most have many HANDLES."""
    rows = [(field, side) for field in range(many) for side in range(4)]
    while True:
        mixed = dice.mixed(rows)
        skin = sewn_by([(mixed[at], mixed[at + 1]) for at in range(0, len(mixed), 2)], many)
        if hangs_together(skin):
            return skin


def seams_of(skin):
    return {(field, side): skin[field][side] for field, side in crossings(skin)}


def framed(skin, field):
    """A SKIN with four FIELDS more, of as many HANDLES: field stands in a frame of four."""
    many, seams = len(skin), seams_of(skin)

    def outward(crossing):
        return (many + crossing[1], 0) if crossing[0] == field else crossing

    out = {outward(one): outward(two) for one, two in seams.items()}
    for side in range(4):
        out[field, side], out[many + side, 2] = (many + side, 2), (field, side)
        nearby = many + (side + 1) % 4
        out[many + side, 1], out[nearby, 3] = (nearby, 3), (many + side, 1)
    return from_seams(out, many + 4)


def folded_in(skin, crossing, turn):
    """A SKIN with one FIELD more, of as many HANDLES: sewn in at an EDGE, two of its SIDES sewn together."""
    many, seams = len(skin), seams_of(skin)
    contrary = seams[crossing]
    sides = [(many, (turn + own) % 4) for own in range(4)]
    for one, two in ((crossing, sides[0]), (contrary, sides[3]), (sides[1], sides[2])):
        seams[one], seams[two] = two, one
    return from_seams(seams, many + 1)


def grown_skin(dice, start, many):
    """A SKIN of so many FIELDS with as many HANDLES as start."""
    skin = start
    while len(skin) < many:
        if many - len(skin) >= 4 and dice.below(3):
            skin = framed(skin, dice.below(len(skin)))
        else:
            skin = folded_in(skin, dice.pick(crossings(skin)), dice.below(4))
    return skin


def torus(wide, deep, shift):
    """FIELDS in rows, each row sewn to itself, the last row to the first one, so many on."""
    seams = {}
    for y in range(deep):
        for x in range(wide):
            seams[y * wide + x, 0] = (y * wide + (x + 1) % wide, 2)
            above = (x + (shift if y == deep - 1 else 0)) % wide
            seams[y * wide + x, 1] = ((y + 1) % deep * wide + above, 3)
    for one, two in list(seams.items()):
        seams[two] = one
    return from_seams(seams, wide * deep)


def renamed_at_haphazard(dice, skin):
    """The triple of an ORDER, turns, and skin renamed by these: FIELD order[i] becomes i."""
    order = tuple(dice.mixed(range(len(skin))))
    turns = tuple(dice.below(4) for _ in skin)

    def new(crossing):
        place = order.index(crossing[0])
        return place, (crossing[1] - turns[place]) % 4

    seams = {new(one): new(two) for one, two in seams_of(skin).items()}
    return order, turns, from_seams(seams, len(skin))


def many_skins():
    """A good many SKINS of unlike kinds, of 1 to 40 FIELDS."""
    dice = Dice(1)
    skins = list(NAMED) + all_skins(1) + all_skins(2)[::5]
    skins += [thrown_skin(dice, many) for many in (3, 3, 3, 4, 4, 5, 5, 6, 7, 8, 10, 13, 19, 27, 40)]
    skins += [torus(*own) for own in ((1, 4, 0), (1, 3, 0), (2, 2, 1), (3, 2, 1), (5, 4, 2), (8, 5, 3))]
    for start in (PILLOW, CUBE, CONE, LOOP, TWIN, PAIR, TWIST):
        skins += [grown_skin(dice, start, many) for many in (len(start) + 1, 9, 14, 40)]
    return skins


def few_skins():
    """Every fourth or so of the SKINS above, those of few FIELDS."""
    return [skin for skin in many_skins() if len(skin) <= 14][::3]


def step_of(skin, sides, crossing):
    """A STEP, worked out by turning the SIDE that is met: in over b is straight on over b + 2."""
    field, side = crossing
    other, back = skin[field][side]
    straight = (back + 2) % 4
    turned = (sides[field] - side) % 4
    return {0: 0, 1: 1, 2: 2, 3: -1}[(sides[other] - straight - turned) % 4]


def vanes_on(skin, dice, most=4000):
    """VANES of skin, found by trying FIELD after FIELD; None if they are not found in so many tries."""
    order, found = [0], {0}
    for field in order:
        for other, _ in skin[field]:
            if other not in found:
                found.add(other)
                order.append(other)
    sides, tries = {}, [most]

    def fits(field):
        return all(step_of(skin, sides, (field, side)) != 2
                   for side in range(4) if skin[field][side][0] in sides)

    def stand(at):
        if at == len(order):
            return True
        for side in dice.mixed(range(4)):
            tries[0] -= 1
            if tries[0] < 0:
                return False
            sides[order[at]] = side
            if fits(order[at]) and stand(at + 1):
                return True
            del sides[order[at]]
        return False

    return tuple(sides[field] for field in range(len(skin))) if stand(0) else None


def skins_with_vanes():
    """Pairs of a SKIN and VANES of it."""
    dice = Dice(2)
    rows = []
    for skin in many_skins():
        for _ in range(3):
            vanes = vanes_on(skin, dice)
            if vanes is not None and (skin, vanes) not in rows:
                rows.append((skin, vanes))
    return rows


def ring_on(skin, dice, start, least):
    """A RING from FIELD start, of at least so many CROSSINGS: a walk at haphazard till it is home."""
    ring, field = [], start
    while len(ring) < least or field != start:
        crossing = (field, dice.below(4))
        ring.append(crossing)
        field = skin[field][crossing[1]][0]
    return tuple(ring)


def rings_on(skin, dice):
    """RINGS of unlike lengths: to and fro, short, long."""
    field = dice.below(len(skin))
    crossing = (field, dice.below(4))
    rows = [(crossing, skin[field][crossing[1]])]
    return rows + [ring_on(skin, dice, field, least) for least in (1, 1, 3, 6, 15)]


WAYS = {1: (1, 0, 0), 2: (0, 1, 0), 3: (0, 0, 1), -1: (-1, 0, 0), -2: (0, -1, 0), -3: (0, 0, -1)}
AXES = {1: (2, 3), 2: (3, 1), 3: (1, 2), -1: (3, 2), -2: (1, 3), -3: (2, 1)}


def moved(cube, *ways):
    for way in ways:
        cube = tuple(one + two for one, two in zip(cube, WAYS[way]))
    return cube


def heap_skin(cubes):
    """The SKIN of what is a HEAP neither pinched nor hollow."""
    faces = sorted((cube, way) for cube in cubes for way in WAYS if moved(cube, way) not in cubes)
    place = {face: at for at, face in enumerate(faces)}
    sides = {way: (u, v, -u, -v) for way, (u, v) in AXES.items()}
    rows = []
    for cube, way in faces:
        row = []
        for out in sides[way]:
            if moved(cube, way, out) in cubes:
                face, back = (moved(cube, way, out), -out), -way
            elif moved(cube, out) in cubes:
                face, back = (moved(cube, out), way), -out
            else:
                face, back = (cube, out), way
            row.append((place[face], sides[face[1]].index(back)))
        rows.append(tuple(row))
    return tuple(rows)


def box_of(wide, deep, high):
    return [(x, y, z) for x in range(wide) for y in range(deep) for z in range(high)]


def heap_skins():
    """SKINS of HEAPS, all of whose FIELDS have four unlike CORNERS: without HANDLES, with one, with two."""
    heaps = [box_of(*own) for own in ((1, 1, 1), (1, 1, 2), (1, 2, 2), (1, 2, 3), (2, 2, 2), (2, 2, 4), (1, 1, 9))]
    heaps.append([(0, 0, 0), (1, 0, 0), (0, 1, 0), (0, 0, 1)])
    heaps.append([(0, 0, 0), (1, 0, 0), (1, 1, 0), (1, 1, 1), (2, 1, 1)])
    heaps.append([own for own in box_of(3, 3, 1) if own != (1, 1, 0)])
    heaps.append([own for own in box_of(3, 5, 1) if own not in ((1, 1, 0), (1, 3, 0))])
    return [heap_skin(own) for own in heaps]


def corner_rows(skin):
    """For each CORNER the pairs of its ROUND, worked out by going round till home; in order of their least ones."""
    left, rows = crossings(skin), []
    while left:
        row, pair = [], left[0]
        while pair not in row:
            row.append(pair)
            pair = skin[pair[0]][(pair[1] - 1) % 4]
        left = [own for own in left if own not in row]
        rows.append(row)
    return rows


def rising_skins():
    """SKINS all of whose FIELDS have four unlike CORNERS, of up to 40 FIELDS or so."""
    rows = []
    for skin in heap_skins() + [framed(CUBE, 2), framed(framed(PILLOW, 0), 3), torus(3, 3, 1)] + many_skins():
        at = {pair: number for number, row in enumerate(corner_rows(skin)) for pair in row}
        if all(len({at[field, side] for side in range(4)}) == 4 for field in range(len(skin))):
            rows.append(skin)
    return rows


def every_vanes(skin):
    """All VANES of a small SKIN, ascending: all SIDES are tried out."""
    rows = []
    for behind in itertools.product(range(4), repeat=len(skin) - 1):
        sides = (0,) + behind
        if all(step_of(skin, sides, own) != 2 for own in crossings(skin)):
            rows += [tuple((own + turn) % 4 for own in sides) for turn in range(4)]
    return sorted(rows)


def small_skins(most=6):
    """SKINS of few FIELDS, so that all their VANES can be tried out."""
    dice = Dice(3)
    rows = list(NAMED) + all_skins(1) + all_skins(2)[::8] + [torus(1, 4, 0), torus(1, 5, 0), torus(2, 2, 1)]
    rows += [thrown_skin(dice, many) for many in (3, 3, 4, 4, 5, 5, 6)]
    rows += [grown_skin(dice, start, 5) for start in (CONE, PILLOW, LOOP, TWIN, WHEEL)]
    return [skin for skin in rows if len(skin) <= most]
