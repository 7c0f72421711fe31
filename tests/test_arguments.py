"""Points 5 and 6: arguments are checked in the order of the signature, by position and by name."""

import copy
import inspect
import unittest
from itertools import product

from causaleffects import errors, graphs, models, text
from helpers import DOOR, FLIPS, SEEN, nested

DEEP = nested(300)
LIST = [["x"], [], []]
GRAPH = (errors.InvalidGraph, DOOR, (None, DOOR[:2], LIST, DEEP, (("x", "y"), ((1, 0),), ()), FLIPS))
NAME = (errors.InvalidName, "m", ("z", 0, None, b"m", DEEP, ["m"]))
LOT = (errors.InvalidLot, (0,), ((2, 1), (3,), None, [0], DEEP, (True,), 0))
TWO_LOT = (errors.InvalidLot, (0,), ((1, 0), (2,), None, [0], DEEP, (True,)))
OTHER_LOT = (errors.InvalidLot, (1,), ((1, 0), (2,), None, [1], DEEP, (True,)))
MODEL = (errors.InvalidModel, FLIPS, (None, list(FLIPS), FLIPS[:3], DEEP, DOOR))
TOLD = (errors.InvalidTold, SEEN, (((), None), (None, None), ([(0,)], None), (((0,), ()), 1), (((0,), (0,)), 1),
                                   ((DEEP,), 0), (((0, 1), (1, 0), None), 1), (DEEP, 0)))
FORMULA = (errors.InvalidFormula, ("told", 0), (None, ("told", 1), ["told", 0], DEEP, "told 0", ("sum", (), 0)))
GRAPH_TEXT = (errors.InvalidText, "names x;", ((None, None, None), (b"", None, None), ("", 1, 1), ("names x;\n;", 2, 1)))
LOT_TEXT = (errors.InvalidText, "{x}", ((0, None, None), (DEEP, None, None), ("\n{q}", 2, 2), ("{x}x", 1, 4)))
MODEL_TEXT = (errors.InvalidText, "names x; sizes 2; table x: 0, 1;", (([], None, None), ("names x;", 1, 9)))
FORMULA_TEXT = (errors.InvalidText, "told 0", ((FLIPS, None, None), ("told 1", 1, 6), ("told 0 ?", 1, 8)))

CALLS = {
    graphs.index_of: (("graph", GRAPH), ("name", NAME)),
    graphs.parents: (("graph", GRAPH), ("name", NAME)),
    graphs.children: (("graph", GRAPH), ("name", NAME)),
    graphs.hidden_lots: (("graph", GRAPH), ("name", NAME)),
    graphs.is_lot_of: (("graph", GRAPH), ("value", (None, (0,), ()))),
    text.read_graph: (("text", GRAPH_TEXT),),
    text.read_lot: (("graph", GRAPH), ("text", LOT_TEXT)),
    text.read_model: (("text", MODEL_TEXT),),
    text.read_formula: (("graph", GRAPH), ("told", TOLD), ("text", FORMULA_TEXT)),
    text.show_graph: (("graph", GRAPH),),
    text.show_lot: (("graph", GRAPH), ("lot", LOT)),
    text.show_model: (("model", MODEL),),
    text.show_formula: (("graph", GRAPH), ("told", TOLD), ("formula", FORMULA)),
    models.is_positive: (("model", MODEL),),
    models.table: (("model", MODEL), ("lot", TWO_LOT)),
    models.effect: (("model", MODEL), ("deeds", TWO_LOT), ("asked", OTHER_LOT)),
}


def told_of(error, found):
    """What an error keeps, in the order in which the wrong values tell it."""
    if error is errors.InvalidText:
        return (found.line, found.column)
    if error is errors.InvalidTold:
        return (found.index,)
    return (found.given,)


def wrong_values(told):
    """Pairs of each wrong value and what its error keeps."""
    error, _, values = told
    for value in values:
        if error is errors.InvalidText or error is errors.InvalidTold:
            yield value[0], tuple(value[1:])
        else:
            yield value, (value,)


class Arguments(unittest.TestCase):
    def test_the_names_of_the_arguments(self):
        for call, told in CALLS.items():
            self.assertEqual(list(inspect.signature(call).parameters), [name for name, _ in told], call)
        self.assertEqual(list(inspect.signature(graphs.is_graph).parameters), ["value"])

    def test_right_ones(self):
        for call, told in CALLS.items():
            right = [kind[1] for _, kind in told]
            by_name = {name: kind[1] for name, kind in reversed(told)}
            self.assertEqual(call(*right), call(**by_name))

    def test_wrong_ones_by_themselves_and_together(self):
        # Each argument is right or wrong; the first wrong one is told, whatever the others are.
        tried = 0
        for call, told in CALLS.items():
            choices = [[(kind[1], None)] + list(wrong_values(kind)) for _, kind in told]
            for row in product(*choices):
                wrong = [(kind[0], keeps) for (_, kind), (_, keeps) in zip(told, row) if keeps is not None]
                if wrong and wrong[0][0] is not None:
                    tried += 1
                    values = [value for value, _ in row]
                    self.check(wrong[0], call, values, {})
                    self.check(wrong[0], call, [], {name: value for (name, _), value in zip(told, values)})
                    self.check(wrong[0], call, values[:1], {
                        name: value for (name, _), value in reversed(list(zip(told, values))[1:])})
        self.assertGreater(tried, 700)

    def check(self, wrong, call, given, named):
        error, keeps = wrong
        with self.assertRaises(errors.CausalError) as found:
            call(*given, **named)
        self.assertIs(type(found.exception), error)
        for one, other in zip(told_of(error, found.exception), keeps):
            if error in (errors.InvalidText, errors.InvalidTold):
                self.assertEqual(one, other)
            else:
                self.assertIs(one, other)

    def test_nothing_that_was_passed_is_changed(self):
        for call, told in CALLS.items():
            if len(told) == 1 or told[0][1] is GRAPH:
                before = copy.deepcopy(LIST)
                with self.assertRaises(errors.CausalError):
                    call(LIST, *[kind[1] for _, kind in told[1:]])
                self.assertEqual(LIST, before)


if __name__ == "__main__":
    unittest.main()
