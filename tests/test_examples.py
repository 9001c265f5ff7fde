"""The examples of the document, as they are printed there, one file for each promise."""

import doctest
import importlib
import os
import re
import unittest

from whirlskin import errors

HERE = os.path.dirname(os.path.abspath(__file__))
MODULES = ("skins", "corners", "rings", "vanes", "moves", "trees", "whirls", "heights", "wishes", "lays", "cuts",
           "lots", "quarters", "gaps", "plans", "lattice", "heaps", "judge", "texts", "board")
RAISES = re.compile(r"raises (\w+)\((?:(\w+)=(-?\d+))?\)")


def all_names():
    """The names that an example may use: the functions of the package."""
    names = {}
    for module in MODULES:
        loaded = importlib.import_module("whirlskin." + module)
        own = {name: thing for name, thing in vars(loaded).items()
               if callable(thing) and thing.__module__ == loaded.__name__}
        names.update(own)
    return names


def example_files():
    """The names of the files of examples, in the document's order."""
    return sorted(name for name in os.listdir(HERE) if re.fullmatch(r"examples_\d\d\.txt", name))


def steps_of(name):
    """The pairs (what is typed, the line behind it or None) of a file of examples."""
    with open(os.path.join(HERE, name), encoding="ascii") as file:
        lines = file.read().splitlines()
    typed = []
    for line in lines:
        if line.startswith(">>> "):
            typed.append([line[4:], None])
        else:
            assert typed[-1][1] is None, line
            typed[-1][1] = line
    return typed


class Examples(unittest.TestCase):
    def test_there_are_all_files(self):
        self.assertEqual(example_files(), [f"examples_{number:02d}.txt" for number in range(4, 24)])

    def test_each_example(self):
        # Names go on from one section to the next, so all files share them.
        names = all_names()
        for file in example_files():
            for typed, told in steps_of(file):
                with self.subTest(file=file, typed=typed):
                    self.check(names, typed, told)

    def test_what_the_readme_shows(self):
        with open(os.path.join(os.path.dirname(HERE), "README.md"), encoding="ascii") as file:
            rows = doctest.DocTestParser().get_examples(file.read())
        names = {}
        for own in rows:
            with self.subTest(typed=own.source):
                self.check(names, own.source, own.want.strip() or None)
        self.assertGreater(len(rows), 20)

    def check(self, names, typed, told):
        if told is None:
            exec(typed, names)
        elif told.startswith("raises "):
            name, attribute, value = RAISES.fullmatch(told).groups()
            with self.assertRaises(getattr(errors, name)) as caught:
                eval(typed, names)
            self.assertIs(type(caught.exception), getattr(errors, name))
            if attribute:
                self.assertEqual(getattr(caught.exception, attribute), int(value))
        else:
            self.assertEqual(repr(eval(typed, names)), told)


if __name__ == "__main__":
    unittest.main()
