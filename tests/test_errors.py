"""causaleffects.errors: point 5 and the interface."""

import unittest

from causaleffects import errors
from helpers import WRONG, nested

ATTRIBUTES = {
    "CausalError": (),
    "InvalidGraph": ("given",), "InvalidName": ("given",), "InvalidLot": ("given",), "InvalidSizes": ("given",),
    "InvalidModel": ("given",), "InvalidAsked": ("given",), "InvalidFormula": ("given",), "TooMany": ("given",),
    "InvalidLine": ("given",), "NotWithin": ("given",), "InvalidDerivation": ("given",),
    "InvalidWeights": ("given",), "NotBetween": ("given",),
    "InvalidTold": ("index",), "InvalidTables": ("index",), "InvalidHedges": ("index",),
    "InvalidText": ("line", "column"),
    "NotIdentified": ("lot",),
    "Identified": (), "NoModel": (),
}
THINGS = WRONG + (1, 25, "text", (0, 1), [1, [2]], {"a": 1}, ValueError("x"))


class Errors(unittest.TestCase):
    def test_there_are_just_these(self):
        told = {name for name, value in vars(errors).items() if isinstance(value, type)}
        self.assertEqual(told, set(ATTRIBUTES))

    def test_they_stand_under_one(self):
        self.assertEqual(errors.CausalError.__bases__, (ValueError,))
        for name in ATTRIBUTES:
            if name != "CausalError":
                self.assertEqual(getattr(errors, name).__bases__, (errors.CausalError,), name)

    def test_they_are_defined_here(self):
        for name, attributes in ATTRIBUTES.items():
            kind = getattr(errors, name)
            self.assertEqual(kind.__module__, "causaleffects.errors")
            self.assertEqual(kind.__name__, name)
            self.assertEqual("__init__" in vars(kind), bool(attributes), name)

    def test_they_keep_what_they_are_made_with(self):
        for name, attributes in ATTRIBUTES.items():
            kind = getattr(errors, name)
            for thing in THINGS:
                told = [thing, "other"][:len(attributes)]
                for made in (kind(*told), kind(**dict(zip(attributes, told)))):
                    self.assertEqual(set(vars(made)), set(attributes))
                    for attribute, value in zip(attributes, told):
                        self.assertIs(getattr(made, attribute), value)

    def test_two_attributes_in_any_order(self):
        deep = nested(300)
        made = errors.InvalidText(column=deep, line=[1])
        self.assertEqual((made.line, made.column), ([1], deep))
        made = errors.InvalidText(3, column=4)
        self.assertEqual((made.line, made.column), (3, 4))
        made = errors.InvalidText(None, None)
        self.assertEqual((made.line, made.column), (None, None))

    def test_they_are_caught_as_themselves_and_as_the_one_above(self):
        for name, attributes in ATTRIBUTES.items():
            kind = getattr(errors, name)
            for caught in (kind, errors.CausalError, ValueError, Exception):
                with self.assertRaises(caught) as found:
                    raise kind(*range(len(attributes)))
                self.assertIs(type(found.exception), kind)
                for at, attribute in enumerate(attributes):
                    self.assertEqual(getattr(found.exception, attribute), at)

    def test_one_is_not_caught_as_another(self):
        for name, attributes in ATTRIBUTES.items():
            for other in ATTRIBUTES:
                if other not in (name, "CausalError"):
                    made = getattr(errors, name)(*range(len(attributes)))
                    self.assertNotIsInstance(made, getattr(errors, other))

    def test_attributes_are_wanted(self):
        for name, attributes in ATTRIBUTES.items():
            if attributes:
                with self.assertRaises(TypeError):
                    getattr(errors, name)()


if __name__ == "__main__":
    unittest.main()
