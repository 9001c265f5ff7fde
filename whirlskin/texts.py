"""Names and texts of SKINS, PLANS and HEAPS, written and read."""

from whirlskin.errors import BadLine, Unfit
from whirlskin.heaps import given_heap, is_heap, numbers_across
from whirlskin.skins import given_skin, is_skin

FIGURES = "0123456789"
LETTERS = "enws"
NO_NAMES = "-"
WAY_NAMES = {1: "on", -1: "back"}
WAYS_NAMED = {"on": 1, "back": -1}
UP = "up"


def sides_name(sides):
    """The name of a tuple of SIDES."""
    return "".join([LETTERS[side] for side in sides]) if sides else NO_NAMES


def ring_name(ring):
    """The name of a tuple of pairs of numbers."""
    return ",".join([_pair_name(pair) for pair in ring]) if ring else NO_NAMES


def _pair_name(pair):
    """The name of a pair of numbers."""
    return f"{pair[0]}.{pair[1]}"


def _text_of(lines):
    """The text that has these lines."""
    return "".join([line + "\n" for line in lines])


def skin_text(skin):
    """The text of skin."""
    return _text_of([" ".join(["field"] + [_pair_name(own) for own in row]) for row in given_skin(skin)])


def plan_text(plan):
    """The text of a tuple of pairs (number, way)."""
    return _text_of([f"turn {number} {WAY_NAMES[way]}" for number, way in plan])


def heap_text(heap):
    """The text of heap."""
    own = given_heap(heap)
    wide, deep, high = [numbers_across(own, axis, 0) for axis in range(3)]
    cubes = {cube: True for cube in own}
    lines = [f"at {wide[0]} {deep[0]} {high[0]}"]
    for z in high:
        if z != high[0]:
            lines.append(UP)
        for y in deep[::-1]:
            lines.append("".join(["#" if (x, y, z) in cubes else "." for x in wide]))
    return _text_of(lines)


def sides_read(word):
    """The tuple of SIDES with this name; None if there is none."""
    if word == NO_NAMES:
        return ()
    if word == "" or not all([sign in LETTERS for sign in word]):
        return None
    return tuple([LETTERS.index(sign) for sign in word])


def ring_read(word):
    """The tuple of pairs of numbers with this name; None if there is none."""
    if word == NO_NAMES:
        return ()
    return _all_read([_pair_read(name) for name in word.split(",")])


def _all_read(told):
    """The tuple of what is told; None if one of it is None."""
    return None if None in told else tuple(told)


def _pair_read(name):
    """The pair of numbers with this name; None if there is none."""
    words = name.split(".")
    return _all_read([_number_read(word) for word in words]) if len(words) == 2 else None


def _number_read(word):
    """The number that is written so; None if there is none."""
    figures = word[1:] if word.startswith("-") else word
    if figures == "" or not all([sign in FIGURES for sign in figures]):
        return None
    if figures.startswith("0") and word != "0":
        return None
    return int(word)


def _lines_of(text):
    """The list of the lines of text: a line break at its end begins none."""
    if text == "":
        return []
    return text[:-1].split("\n") if text.endswith("\n") else text.split("\n")


def _check_lines(told):
    """BadLine(number) for the first of these lines that is read as None."""
    if None in told:
        raise BadLine(told.index(None))


def read_skin(text):
    """The SKIN that text tells."""
    rows = [_row_read(line) for line in _lines_of(text)]
    _check_lines(rows)
    told = tuple(rows)
    if not is_skin(told):
        raise Unfit()
    return told


def _row_read(line):
    """The tuple of the four pairs that this line of the text of a SKIN tells; None if it is no such line."""
    words = line.split(" ")
    if words[0] != "field" or len(words) != 5:
        return None
    return _all_read([_pair_read(word) for word in words[1:]])


def read_plan(text):
    """The tuple of the pairs (number, way) that text tells."""
    pairs = [_turn_read(line) for line in _lines_of(text)]
    _check_lines(pairs)
    return tuple(pairs)


def _turn_read(line):
    """The pair that this line of the text of a PLAN tells; None if it is no such line."""
    words = line.split(" ")
    if words[0] != "turn" or len(words) != 3:
        return None
    return _all_read([_number_read(words[1]), WAYS_NAMED.get(words[2])])


def read_heap(text):
    """The HEAP that text tells."""
    lines = _lines_of(text)
    start = _start_read(lines[0]) if lines else None
    if start is None:
        raise BadLine(0)
    _check_drawn(lines)
    layers = _layers_of(lines[1:])
    if not _are_full(layers):
        raise Unfit()
    told = _cubes_in(start, layers)
    if not is_heap(told):
        raise Unfit()
    return told


def _start_read(line):
    """The triple of numbers that the first line of the text of a HEAP tells; None if it is no such line."""
    words = line.split(" ")
    if words[0] != "at" or len(words) != 4:
        return None
    return _all_read([_number_read(word) for word in words[1:]])


def _check_drawn(lines):
    """BadLine(number) for the first of the lines behind line 0 that may not stand there, or for the number of all
    lines if one more has to stand behind them."""
    for number in range(1, len(lines)):
        if lines[number] == UP:
            good = number > 1 and lines[number - 1] != UP
        else:
            good = _is_drawn(lines[number]) and len(lines[number]) == len(lines[1])
        if not good:
            raise BadLine(number)
    if len(lines) == 1 or lines[-1] == UP:
        raise BadLine(len(lines))


def _is_drawn(line):
    """Whether line has one sign or more, and none but # and the dot."""
    return line != "" and all([sign in "#." for sign in line])


def _layers_of(lines):
    """The list of layers, each the list of its lines, between the lines up."""
    layers = [[]]
    for line in lines:
        if line == UP:
            layers.append([])
        else:
            layers[-1].append(line)
    return layers


def _are_full(layers):
    """Whether all layers have as many lines, and # stands in each outermost layer, line and row of signs."""
    if not all([len(layer) == len(layers[0]) for layer in layers]):
        return False
    drawn = [line for layer in layers for line in layer]
    ends = [layers[0], layers[-1], [layer[0] for layer in layers], [layer[-1] for layer in layers],
            [line[0] for line in drawn], [line[-1] for line in drawn]]
    return all(["#" in "".join(own) for own in ends])


def _cubes_in(start, layers):
    """The tuple of the CUBES that these layers show, ascending, start telling the least numbers of all."""
    told = [(start[0] + x, start[1] + y, start[2] + z) for z, layer in enumerate(layers)
            for y, line in enumerate(layer[::-1]) for x, sign in enumerate(line) if sign == "#"]
    return tuple(sorted(told))
