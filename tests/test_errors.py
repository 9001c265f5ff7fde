"""The nine errors, made by hand."""

import unittest

from whirlskin import errors

CLASSES = {
    "NoCorner": (LookupError, "corner"), "NoField": (LookupError, "field"), "NothingDone": (LookupError, None),
    "BadLine": (ValueError, "number"), "Broken": (ValueError, "place"), "CanNot": (ValueError, None),
    "Pinched": (ValueError, None), "TooMany": (ValueError, None), "Unfit": (ValueError, None),
}


class Errors(unittest.TestCase):
    def test_there_are_these_and_no_others(self):
        own = {name for name, thing in vars(errors).items() if isinstance(thing, type)}
        self.assertEqual(own, set(CLASSES))

    def test_each_is_directly_under_its_base_and_no_other(self):
        for name, (base, _) in CLASSES.items():
            with self.subTest(name=name):
                made = getattr(errors, name)
                self.assertEqual(made.__bases__, (base,))
                self.assertEqual(made.__module__, "whirlskin.errors")
                self.assertEqual(made.__name__, name)

    def test_each_keeps_its_value_in_an_attribute(self):
        for name, (_, attribute) in CLASSES.items():
            made = getattr(errors, name)
            for value in (0, -1, 41, 10 ** 6, (1, 2), None):
                with self.subTest(name=name, value=value):
                    if attribute is None:
                        self.assertEqual(vars(made()), {})
                    else:
                        self.assertEqual(vars(made(value)), {attribute: value})
                        self.assertEqual(vars(made(**{attribute: value})), {attribute: value})

    def test_each_with_a_value_wants_it(self):
        for name, (_, attribute) in CLASSES.items():
            if attribute is not None:
                with self.subTest(name=name):
                    self.assertRaises(TypeError, getattr(errors, name))
                    self.assertRaises(TypeError, getattr(errors, name), 1, 2)

    def test_each_is_raised_and_caught(self):
        for name, (base, attribute) in CLASSES.items():
            with self.subTest(name=name):
                made = getattr(errors, name)
                with self.assertRaises(base) as caught:
                    raise made() if attribute is None else made(7)
                self.assertIs(type(caught.exception), made)


if __name__ == "__main__":
    unittest.main()
