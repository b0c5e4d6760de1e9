import unittest

from meetrow import errors

REFUSALS = [
    ("NoBans", ValueError, ()),
    ("NotPlain", ValueError, ("word", "cut")),
    ("NoText", ValueError, ()),
    ("NoWeb", ValueError, ()),
    ("NoQuarter", ValueError, ("number",)),
    ("NoSpot", ValueError, ("number",)),
    ("TooFew", ValueError, ()),
    ("IsThere", KeyError, ("word",)),
    ("NotThere", KeyError, ("word",)),
    ("NotRow", KeyError, ("word",)),
    ("NotRing", KeyError, ("word",)),
    ("NoFolk", KeyError, ("folk",)),
    ("NoHands", KeyError, ("folk",)),
    ("TooMany", IndexError, ("most",)),
    ("NoNumber", IndexError, ("many",)),
    ("NoDeed", IndexError, ()),
    ("NoMoment", IndexError, ("moment",)),
]


class Refusals(unittest.TestCase):
    def test_each_is_straight_under_its_error(self):
        for name, above, _ in REFUSALS:
            with self.subTest(name):
                made = getattr(errors, name)
                self.assertEqual(made.__bases__, (above,))
                self.assertEqual(made.__module__, "meetrow.errors")

    def test_each_is_made_of_its_fields_in_order(self):
        for name, _, fields in REFUSALS:
            with self.subTest(name):
                worth = [("worth", at) for at in range(len(fields))]
                refusal = getattr(errors, name)(*worth)
                self.assertEqual([getattr(refusal, field) for field in fields], worth)
                self.assertEqual(vars(refusal), dict(zip(fields, worth)))

    def test_fields_are_due(self):
        for name, _, fields in REFUSALS:
            if fields:
                with self.subTest(name), self.assertRaises(TypeError):
                    getattr(errors, name)()

    def test_each_is_raised_and_caught(self):
        for name, above, fields in REFUSALS:
            with self.subTest(name), self.assertRaises(above):
                raise getattr(errors, name)(*fields)

    def test_fields_may_be_anything(self):
        for thing in (None, True, -1, 10 ** 59, "x", (1, [2]), [None]):
            self.assertIs(errors.NoFolk(thing).folk, thing)
            self.assertIs(errors.NoMoment(thing).moment, thing)
            self.assertTrue(str(errors.NoFolk(thing)))
