"""Promise [22]: texts.py."""

import unittest

from tests.cubes import ARCH, BEND, HOLLOW, ONE, RING, grown_heap, heap, many_heaps, not_heaps, shifted
from tests.kinds import not_skins
from tests.samples import CUBE, Dice, LOOP, PILLOW, TWIN, box_of, many_skins, rings_on, skins_with_vanes
from whirlskin.errors import BadLine, Unfit
from whirlskin.heaps import is_heap
from whirlskin.texts import (heap_text, plan_text, read_heap, read_plan, read_skin, ring_name, ring_read, sides_name,
                             sides_read, skin_text)

LONG = "1" + "0" * 999
NUMBERS = (0, 1, -1, 9, 10, -10, 39, 100, 10 ** 6, -10 ** 6, 10 ** 30, -10 ** 999, 10 ** 999)
# What is written like a number and is none.
NO_NUMBERS = ("", "-", "-0", "00", "01", "-01", "+1", "1.", ".1", "1-", "--1", "1 ", " 1", "0x1", "1_0", "a", "1e3", "1,0", "O", "one",
              "-00", "0-", "1\n", "(1)")


class Names(unittest.TestCase):
    def test_sides(self):
        self.assertEqual([sides_name(own) for own in ((), (0,), (3, 2, 1, 0), (0,) * 40)], ["-", "e", "swne", "e" * 40])
        dice = Dice(150)
        for _, vanes in skins_with_vanes()[::7]:
            name = sides_name(vanes)
            self.assertEqual(name, "".join({0: "e", 1: "n", 2: "w", 3: "s"}[own] for own in vanes))
            self.assertEqual(sides_name(list(vanes)), name)
            self.assertEqual(sides_read(name), vanes)
            at = dice.below(len(name) + 1)
            for sign in "-x ENWS0.,\n":
                self.assertIsNone(sides_read(name[:at] + sign + name[at:]))
        for word, told in (("-", ()), ("ee", (0, 0)), ("enwsswne", (0, 1, 2, 3, 3, 2, 1, 0)), ("s", (3,))):
            self.assertEqual(sides_read(word), told)
        for word in ("", "--", "e-", "-e", " ", "e ", " e", "e e", "E", "0", "east", "en,ws", "e\n", "\n", "ew\nns", "ex"):
            self.assertIsNone(sides_read(word))

    def test_rings(self):
        self.assertEqual([ring_name(own) for own in ((), ((0, 1),), ((0, 1), (4, 2)), ((-3, 12), (-10 ** 6, 0)))],
                         ["-", "0.1", "0.1,4.2", "-3.12,-1000000.0"])
        dice = Dice(151)
        for skin in many_skins()[::3]:
            for ring in rings_on(skin, dice):
                name = ring_name(ring)
                self.assertEqual(name, ",".join(f"{field}.{side}" for field, side in ring))
                self.assertEqual(ring_name([list(own) for own in ring]), name)
                self.assertEqual(ring_read(name), ring)
                for bad in (name + ",", "," + name, name + " ", " " + name, name + "\n", name + ".", name + ".0", "-," + name,
                            name + ",-", name.replace(".", ":"), name.replace(".", ", "), name + ", 0.0", "(" + name + ")"):
                    self.assertIsNone(ring_read(bad))
        self.assertEqual(ring_read("-"), ())
        for word in ("", "--", ",", ".", "0", "0.1,", "0.1,,0.2", "0.1 0.2", "0.1;0.2", " ", "\n", "0.1.2", "0..1", "-.-", "0.-", "-.0"):
            self.assertIsNone(ring_read(word))

    def test_each_number(self):
        for one in NUMBERS:
            for two in NUMBERS:
                name = ring_name(((one, two),))
                self.assertEqual(name, str(one) + "." + str(two))
                self.assertEqual(ring_read(name), ((one, two),))
                self.assertEqual(ring_read("0.0," + name), ((0, 0), (one, two)))
        for bad in NO_NUMBERS:
            for word in (bad + ".0", "0." + bad, "0.0," + bad + ".0", "0." + bad + ",0.0"):
                self.assertIsNone(ring_read(word), word)
        self.assertEqual(ring_read(LONG + ".-" + LONG), ((10 ** 999, -10 ** 999),))
        self.assertIsNone(ring_read("0" + LONG[1:] + ".0"))

    def test_each_sign(self):
        for sign in [chr(own) for own in range(32, 127)] + ["\n"]:
            self.assertEqual(sides_read(sign), {"e": (0,), "n": (1,), "w": (2,), "s": (3,), "-": ()}.get(sign))
            told = ((int(sign), 1),) if sign in "0123456789" else None
            self.assertEqual(ring_read(sign + ".1"), told)
            self.assertEqual(ring_read("1" + sign + ".1"), told and ((10 + int(sign), 1),))
            if sign not in "#\n":
                self.assertRaises((BadLine, Unfit)[sign == "."], read_heap, "at 0 0 0\n#" + sign + "\n")

    def test_what_is_read_is_numbers(self):
        self.assertEqual(repr(ring_read("0.1,1.0")), "((0, 1), (1, 0))")
        self.assertEqual(repr(sides_read("en")), "(0, 1)")
        self.assertEqual(repr(read_plan("turn 1 on\n")), "((1, 1),)")


class Texts(unittest.TestCase):
    """Lines that cannot stand there, with their numbers."""

    def refused(self, call, text, number):
        with self.subTest(text=text):
            with self.assertRaises(BadLine) as caught:
                call(text)
            self.assertEqual(caught.exception.number, number)

    def each_bad_line(self, call, good, bad):
        """Each bad line ahead of, between and behind good ones, other bad ones behind it."""
        for line in bad:
            for at in range(len(good) + 1):
                lines = good[:at] + [line] + good[at:]
                self.refused(call, "\n".join(lines) + "\n", at)
                self.refused(call, "\n".join(lines + [bad[0], ""]) + "\n", at)
                if line != "" or at < len(good):
                    self.refused(call, "\n".join(lines), at)


class Skins(Texts):
    def test_there_and_back(self):
        for skin in many_skins():
            text = skin_text(skin)
            lines = ["field " + " ".join(f"{field}.{side}" for field, side in row) for row in skin]
            self.assertEqual(text, "\n".join(lines) + "\n")
            self.assertEqual(read_skin(text), skin)
            self.assertEqual(read_skin(text[:-1]), skin)
            self.assertEqual(skin_text([[list(own) for own in row] for row in skin]), text)
            self.refused(read_skin, text + "\n", len(skin))
            self.refused(read_skin, "\n" + text, 0)

    def test_each_bad_line(self):
        good = skin_text(TWIN).split("\n")[:-1]
        bad = ["", " ", "field", "field 0.2 0.3 0.0", "field 0.2 0.3 0.0 0.1 0.0", "field  0.2 0.3 0.0 0.1", " field 0.2 0.3 0.0 0.1",
               "field 0.2 0.3 0.0 0.1 ", "field 0.2 0.3  0.0 0.1", "Field 0.2 0.3 0.0 0.1", "fields 0.2 0.3 0.0 0.1",
               "0.2 0.3 0.0 0.1", "field 0.2,0.3 0.0 0.1 0.0", "field 0.2 0.3 0.0 -", "field 0.2 0.3 0.0 0", "field 0.2 0.3 0.0 0.1.0",
               "up", "turn 0 on", "at 0 0 0", "#"]
        bad += ["field 0.2 0.3 " + own + " 0.1" for own in ("0." + one for one in NO_NUMBERS if "\n" not in one)]
        bad += ["field " + own + ".1 0.3 0.0 0.1" for own in NO_NUMBERS if "\n" not in own]
        self.each_bad_line(read_skin, good, bad)

    def test_no_skin(self):
        for text in ("", "field 0.0 0.1 0.2 0.3", "field 0.2 0.3 0.0 0.1\n" * 2, "field 1.0 1.0 1.0 1.0\n", "field -1.2 0.3 0.0 0.1\n",
                     "field 0.2 0.3 0.0 0.5\n", f"field {LONG}.{LONG} 0.0 0.0 0.0", skin_text(PILLOW).split("\n")[0],
                     "field 0.-2 0.3 0.0 0.1\n"):
            with self.subTest(text=text):
                self.assertRaises(Unfit, read_skin, text)

    def test_a_bad_line_ahead_of_no_skin(self):
        self.refused(read_skin, "field 0.0 0.1 0.2 0.3\nfield", 1)
        self.refused(read_skin, "field 0.0 0.1 0.2 0.3\n\n", 1)
        self.refused(read_skin, "\n", 0)
        self.refused(read_skin, "\n\n", 0)

    def test_no_skin_to_write(self):
        for skin in not_skins():
            self.assertRaises(Unfit, skin_text, skin)


class Plans(Texts):
    def test_there_and_back(self):
        dice = Dice(152)
        for many in (0, 1, 2, 5, 40, 300):
            plan = tuple((dice.pick(NUMBERS), 1 - 2 * dice.below(2)) for _ in range(many))
            text = plan_text(plan)
            self.assertEqual(text, "".join(f"turn {field} " + ("on\n" if way == 1 else "back\n") for field, way in plan))
            self.assertEqual(plan_text([list(own) for own in plan]), text)
            self.assertEqual(read_plan(text), plan)
            self.assertEqual(read_plan(text[:-1]), plan)
            self.refused(read_plan, text + "\n", many)
        self.assertEqual((plan_text(()), read_plan("")), ("", ()))
        self.assertEqual(read_plan("turn -7 on\nturn 7 back"), ((-7, 1), (7, -1)))

    def test_each_bad_line(self):
        good = ["turn 0 on", "turn 12 back"]
        bad = ["", " ", "turn", "turn 0", "turn on", "turn 0 1", "turn 0 -1", "turn 0 On", "turn 0 off", "turn  0 on", "turn 0  on",
               " turn 0 on", "turn 0 on ", "turn 0 on on", "Turn 0 on", "0 on", "turn 0 back back", "turn 0on", "turn 0.1 on", "field 0 on",
               "turn 0 -", "turn on 0", "turn 0 onback"]
        bad += ["turn " + own + " on" for own in NO_NUMBERS if "\n" not in own]
        self.each_bad_line(read_plan, good, bad)
        self.refused(read_plan, "\n", 0)
        self.refused(read_plan, "turn 0 on\n\n\n", 1)


def drawn(cubes):
    """The lines of the text of a HEAP, drawn by hand."""
    lows = [min(own[axis] for own in cubes) for axis in range(3)]
    highs = [max(own[axis] for own in cubes) for axis in range(3)]
    lines = ["at " + " ".join(str(own) for own in lows)]
    for z in range(lows[2], highs[2] + 1):
        lines += ["up"] * (z > lows[2])
        for y in range(highs[1], lows[1] - 1, -1):
            lines.append("".join(".#"[(x, y, z) in cubes] for x in range(lows[0], highs[0] + 1)))
    return lines


class Heaps(Texts):
    def test_there_and_back(self):
        dice = Dice(153)
        for cubes in many_heaps():
            for own in (cubes, shifted(cubes, [dice.below(21) - 10 for _ in range(3)])):
                text = heap_text(own)
                self.assertEqual(text, "\n".join(drawn(own)) + "\n")
                self.assertEqual(heap_text([list(cube) for cube in own]), text)
                self.assertEqual(read_heap(text), own)
                self.assertEqual(read_heap(text[:-1]), own)
                self.refused(read_heap, text + "\n", len(drawn(own)))
        self.assertEqual(read_heap(f"at {LONG} -{LONG} 0\n#"), ((10 ** 999, -10 ** 999, 0),))

    def test_by_hand(self):
        self.assertEqual(heap_text(ONE), "at 0 0 0\n#\n")
        self.assertEqual(heap_text(((-3, 2, 7), (-2, 2, 7), (-2, 2, 8), (-2, 3, 8))), "at -3 2 7\n..\n##\nup\n.#\n.#\n")
        self.assertEqual(heap_text(RING), "at 0 0 0\n###\n#.#\n###\n")

    def test_line_0(self):
        for line in ("", " ", "at", "at 0 0", "at 0 0 0 0", "At 0 0 0", "at  0 0 0", " at 0 0 0", "at 0 0 0 ", "0 0 0", "at 0,0,0", "at0 0 0",
                     "up", "#", "at up up up", "field 0.0 0.0 0.0 0.0"):
            self.refused(read_heap, line + "\n#\n", 0)
            self.refused(read_heap, line + "\nup\nup", 0)
            self.refused(read_heap, line, 0)
        for bad in NO_NUMBERS:
            if "\n" not in bad:
                for words in ((bad, "0", "0"), ("0", bad, "0"), ("0", "0", bad)):
                    self.refused(read_heap, "at " + " ".join(words) + "\n#\n", 0)
        self.refused(read_heap, "", 0)
        self.refused(read_heap, "\n", 0)

    def test_each_drawn_line(self):
        for cubes in (BEND, RING, HOLLOW, ARCH, heap(box_of(2, 3, 3))):
            lines = drawn(cubes)
            wide = len(lines[1])
            for at in range(1, len(lines)):
                for line in ("", "x" * wide, "#" * (wide - 1) + " ", "#" * (wide - 1) + "o", "UP", "up ", " up", "#" * wide + " ", "at 0 0 0"):
                    text = "\n".join(lines[:at] + [line] + lines[at + 1:])
                    if line != "" or at + 1 < len(lines):
                        self.refused(read_heap, text, at)
                        self.refused(read_heap, text + "\nup\n", at)
                    self.refused(read_heap, text + "\n", at)
                if at > 1 and lines[at] != "up":
                    for line in ("#" * (wide + 1), "#" * (wide - 1), "." * (2 * wide)):
                        self.refused(read_heap, "\n".join(lines[:at] + [line] + lines[at + 1:]) + "\n", at)

    def test_up_at_each_place_where_it_cannot_stand(self):
        for cubes in (BEND, RING, HOLLOW, ARCH):
            lines = drawn(cubes)
            self.refused(read_heap, "\n".join(lines[:1] + ["up"] + lines[1:]), 1)
            self.refused(read_heap, "\n".join(lines + ["up"]), len(lines) + 1)
            self.refused(read_heap, "\n".join(lines + ["up"]) + "\n", len(lines) + 1)
            self.refused(read_heap, "\n".join(lines + ["up", "up"]), len(lines) + 1)
            for at, line in enumerate(lines):
                if line == "up":
                    self.refused(read_heap, "\n".join(lines[:at] + ["up"] + lines[at:]), at + 1)
        self.refused(read_heap, "at 0 0 0", 1)
        self.refused(read_heap, "at 0 0 0\n", 1)
        self.refused(read_heap, "at 0 0 0\n\n", 1)
        self.refused(read_heap, "at 0 0 0\nup", 1)
        self.refused(read_heap, "at 0 0 0\nup\n#", 1)
        self.refused(read_heap, "at 0 0 0\n#\nup\nup\n#", 3)
        self.refused(read_heap, "at 0 0 0\n#\nup\n", 3)

    def test_a_bad_line_ahead_of_unfit(self):
        self.refused(read_heap, "at 0 0 0\n..\nup\n.\n", 3)
        self.refused(read_heap, "at 0 0 0\n#.#\n#.#\nup", 4)
        self.refused(read_heap, "at 0 0 0\n..\n.x\n", 2)

    def test_layers_of_unlike_size(self):
        for text in ("at 0 0 0\n#\n#\nup\n#\n", "at 0 0 0\n#\nup\n#\n#\n", "at 0 0 0\n##\n##\nup\n##\n##\nup\n##\n"):
            self.assertRaises(Unfit, read_heap, text)
        self.assertIs(is_heap(read_heap("at 0 0 0\n#\n#\nup\n.\n#\n")), True)

    def test_outermost_rows_without_a_cube(self):
        # A CUBE in the middle of three by three by three: one row or layer out at each end in turn.
        for wide, deep, high in ((2, 1, 1), (1, 2, 1), (1, 1, 2)):
            for flip in (0, 1):
                layers = [["." * wide] * deep for _ in range(high)]
                x, y, z = (flip if own == 2 else 0 for own in (wide, deep, high))
                layers[z][y] = "." * x + "#" + "." * (wide - 1 - x)
                text = "at 0 0 0\n" + "\nup\n".join("\n".join(layer) for layer in layers)
                self.assertRaises(Unfit, read_heap, text)
        for cubes in (BEND, RING, HOLLOW):
            lines = drawn(cubes)
            wide = [line if number == 0 or line == "up" else "." + line for number, line in enumerate(lines)]
            far = [line if number == 0 or line == "up" else line + "." for number, line in enumerate(lines)]
            empty = "." * len(lines[1])
            deep = [part for line in lines for part in ([line, empty] if line == "up" or line == lines[0] else [line])]
            low = [part for line in lines for part in ([empty, line] if line == "up" else [line])] + [empty]
            many = (lines + ["up"]).index("up") - 1
            high = lines + ["up"] + [empty] * many
            below = lines[:1] + [empty] * many + ["up"] + lines[1:]
            for own in (wide, far, deep, low, high, below):
                self.assertRaises(Unfit, read_heap, "\n".join(own) + "\n")
        for text in ("at 0 0 0\n.", "at 0 0 0\n..\n..\nup\n..\n..", "at 0 0 0\n...\n.#.\n...\n"):
            self.assertRaises(Unfit, read_heap, text)

    def test_an_empty_layer_or_row_within(self):
        self.assertRaises(Unfit, read_heap, "at 0 0 0\n#\nup\n.\nup\n#\n")
        self.assertRaises(Unfit, read_heap, "at 0 0 0\n#.#\n")
        self.assertRaises(Unfit, read_heap, "at 0 0 0\n#\n.\n#\n")
        self.assertRaises(Unfit, read_heap, "at 0 0 0\n#.\n.#\n")
        self.assertRaises(Unfit, read_heap, "at 0 0 0\n#.\n..\nup\n..\n.#\n")

    def test_pictures_at_haphazard(self):
        """What is read is drawn as it was; what is not read is none of these texts."""
        dice, seen = Dice(154), {True: 0, False: 0}
        for _ in range(600):
            wide, deep, high = (1 + dice.below(3) for _ in range(3))
            layers = [["".join(".#"[dice.below(3) > 0] for _ in range(wide)) for _ in range(deep)] for _ in range(high)]
            text = "at -1 0 2\n" + "up\n".join("".join(line + "\n" for line in layer) for layer in layers)
            cubes = heap((x - 1, deep - 1 - y, z + 2) for z, layer in enumerate(layers)
                         for y, line in enumerate(layer) for x, sign in enumerate(line) if sign == "#")
            good = is_heap(cubes) and "\n".join(drawn(cubes)) + "\n" == text
            seen[good] += 1
            if good:
                self.assertEqual(read_heap(text), cubes)
            else:
                self.assertRaises(Unfit, read_heap, text)
        self.assertGreater(min(seen.values()), 60, seen)

    def test_no_heap_to_write(self):
        for bad in not_heaps():
            self.assertRaises(Unfit, heap_text, bad)

    def test_of_thirty_cubes(self):
        for tight in (0, 2, 9):
            cubes = grown_heap(Dice(155 + tight), 30, tight)
            self.assertEqual(read_heap(heap_text(cubes)), cubes)
        self.assertEqual(read_skin(skin_text(CUBE)), CUBE)
        self.assertEqual(read_skin(skin_text(LOOP)), LOOP)


if __name__ == "__main__":
    unittest.main()
