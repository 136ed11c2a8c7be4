"""The errors: their classes above, how they're made, their fields. [The interface]"""

import unittest

from brookworks import errors

UNDER = {
    ValueError: {
        "BadText": "text", "BadWord": "at", "BadRow": "row", "BadName": "name", "BadTerm": "thing",
        "BadNumbers": "thing", "BadDeed": "number", "Clash": "number", "Loose": "place", "Round": "ring",
    },
    KeyError: {
        "NoBrook": "name", "NoSpring": "name", "NoName": "name", "NoOut": "out", "NotGiven": "name",
    },
    LookupError: {"NoPath": "path", "Dry": "name"},
    RuntimeError: {
        "NotNow": "at", "Used": "other", "LastOut": "name", "IsOut": "name", "NotOut": "name", "Unsure": "node",
    },
    OverflowError: {
        "TooFar": "place", "TooFew": "need", "Small": "place", "TooMany": "most", "TooBig": None,
    },
}

WORTHS = ["a", "", 0, 7, True, None, ["a", "b"], ("a", (0, 1)), [("a", [True])]]


class Errors(unittest.TestCase):
    def each(self):
        for above, names in UNDER.items():
            for name, field in names.items():
                with self.subTest(name):
                    yield above, getattr(errors, name), field

    def test_there_are_twenty_eight(self):
        told = [name for name, thing in vars(errors).items() if isinstance(thing, type)]
        self.assertEqual(len(told), 28)
        self.assertEqual(sorted(told), sorted(name for names in UNDER.values() for name in names))

    def test_each_stands_straight_under_pythons_own(self):
        for above, kind, _ in self.each():
            self.assertEqual(kind.__bases__, (above,))
            self.assertEqual(kind.__module__, "brookworks.errors")

    def test_made_by_place_and_by_name(self):
        for _, kind, field in self.each():
            if field is None:
                continue
            for worth in WORTHS:
                for made in (kind(worth), kind(**{field: worth})):
                    self.assertIs(getattr(made, field), worth)
            with self.assertRaises(TypeError):
                kind()
            with self.assertRaises(TypeError):
                kind(1, 2)
            with self.assertRaises(TypeError):
                kind(other_word=1)

    def test_too_big_is_made_with_nothing(self):
        with self.assertRaises(OverflowError) as caught:
            raise errors.TooBig()
        self.assertIs(type(caught.exception), errors.TooBig)

    def test_each_is_raised_and_caught_by_its_own_name(self):
        for above, kind, field in self.each():
            made = kind() if field is None else kind("a")
            with self.assertRaises(kind):
                raise made
            with self.assertRaises(above):
                raise made


if __name__ == "__main__":
    unittest.main()
