"""Points 5 and 6: arguments are checked in the order of the signature, by position and by name."""

import copy
import inspect
import unittest
from itertools import combinations, product

from causaleffects import (bounds, certificates, checker, desk, errors, graphs, identify, models, rounds, text, twomodels,
                           values)
from helpers import BOW, DOOR, EIGHT, FLIPS, PAIRS, PLAIN, SEEN, nested

DEEP = nested(300)
LIST = [["x"], [], []]
GRAPH = (errors.InvalidGraph, DOOR, (None, DOOR[:2], LIST, DEEP, (("x", "y"), ((1, 0),), ()), FLIPS))
NAME = (errors.InvalidName, "m", ("z", 0, None, b"m", DEEP, ["m"]))
LOT = (errors.InvalidLot, (0,), ((2, 1), (3,), None, [0], DEEP, (True,), 0))
TWO_LOT = (errors.InvalidLot, (0,), ((1, 0), (2,), None, [0], DEEP, (True,)))
OTHER_LOT = (errors.InvalidLot, (1,), ((1, 0), (2,), None, [1], DEEP, (True,)))
MODEL = (errors.InvalidModel, FLIPS, (None, list(FLIPS), FLIPS[:3], DEEP, DOOR))
TOLD = (errors.InvalidTold, SEEN, (((), None), (None, None), ([(0,)], None), (((0,), ()), 1), (((0,), (0,)), 1),
                                   ((DEEP,), 0), (((0, 1), (1, 0), None), 1), (DEEP, 0)))
FORMULA = (errors.InvalidFormula, ("told", 0), (None, ("told", 1), ["told", 0], DEEP, "told 0", ("sum", (), 0)))
GRAPH_TEXT = (errors.InvalidText, "names x;", ((None, None, None), (b"", None, None), ("", 1, 1), ("names x;\n;", 2, 1)))
LOT_TEXT = (errors.InvalidText, "{x}", ((0, None, None), (DEEP, None, None), ("\n{q}", 2, 2), ("{x}x", 1, 4)))
MODEL_TEXT = (errors.InvalidText, "names x; sizes 2; table x: 0, 1;", (([], None, None), ("names x;", 1, 9)))
FORMULA_TEXT = (errors.InvalidText, "told 0", ((FLIPS, None, None), ("told 1", 1, 6), ("told 0 ?", 1, 8)))

WHOLE_LOT = (errors.InvalidLot, (0, 1, 2), ((2, 1), (3,), None, [0], DEEP, (True,), 0))
ENDS = (errors.InvalidLot, (2,), ((), (0, 1), (2, 0), (3,), None, [2], DEEP, (True,)))
ASKED = (errors.InvalidLot, (2,), ((1, 0), (3,), None, [1], DEEP, (True,)))
BOW_GRAPH = (errors.InvalidGraph, BOW, (None, BOW[:2], LIST, DEEP, FLIPS))
BOW_TOLD = (errors.InvalidTold, ((0, 1),), (((), None), (None, None), (((0,), ()), 1), ((DEEP,), 0), (((0, 2),), 0)))
SMALL = (errors.InvalidLot, (1,), ((), (1, 0), (2,), None, [1], DEEP, (True,)))
HEDGES = (errors.InvalidHedges, ((0, 1),), ((None, None), ([(0, 1)], None), (((0, 1),) * 7, None), (((1,),), 0),
                                            (((0, 1), None, ()), 1), ((DEEP,), 0), (DEEP, 0)))
SIZES = (errors.InvalidSizes, (2, 2, 2), (None, (2, 2), (2, 2, 5), [2, 2, 2], (2, 2, True), DEEP, 8))
ROW = ((1, 2),) * 8
TABLES = (errors.InvalidTables, (ROW,), ((None, None), ((), None), ([ROW], None), ((ROW, ROW), None), (ROW, None),
                                         ((None,), 0), ((ROW[1:],), 0), ((ROW[1:] + ((2, 1),),), 0), ((DEEP,), 0), (DEEP, 0)))
WAY = ((0, ((0, 1, 2), (1,))), (0, ((0, 1, 2), (0, 2), (2,))))
VALUE = ("value", (None, WAY, ()))
DERIVATION = (errors.InvalidDerivation, WAY, (None, (), DEEP, [1], WAY[:1]))
ASK = (("graph", GRAPH), ("told", TOLD), ("deeds", LOT), ("asked", ASKED))
BOW_ASK = (("graph", BOW_GRAPH), ("told", BOW_TOLD), ("deeds", TWO_LOT), ("asked", OTHER_LOT))
ONE_LOT = (errors.InvalidGraph, BOW, (None, BOW[:2], LIST, DEEP, FLIPS, PLAIN, (("x", "y", "z"), (), ((0, 1), (1, 2)))))
TWO_SIZES = (errors.InvalidSizes, (2, 2), (None, (2,), (2, 5), [2, 2], (2, True), DEEP, 4))
BOW_ROW = ((1, 4), (1, 4), (1, 8), (3, 8))
ZEROS = ((1, 2), (0, 1), (1, 4), (1, 4))
BOW_TABLES = (errors.InvalidTables, (BOW_ROW,), ((None, None), ((), None), ([BOW_ROW], None), ((BOW_ROW,) * 2, None),
                                                 ((ZEROS,), 0), ((None,), 0), ((BOW_ROW[1:],), 0), ((DEEP,), 0), (DEEP, 0)))
QUESTION = (errors.InvalidAsked, ((0,), (1,), (1, 1)), (None, ((0,), (1,)), ((0,), (0,), (1, 1)), [(0,), (1,), (1, 1)], DEEP,
                                                        ((0,), (1,), (1, 2)), ((0,), (1,), (True, 1)), 3))
WEIGHTS = (errors.InvalidWeights, ((((0,), (0, 0)), (1, 4)), (((0,), (1, 0)), (1, 4)), (((1,), (0, 0)), (1, 8)),
                                   (((1,), (0, 1)), (3, 8))), (None, (), DEEP, [1], ((((0,), (0, 0)), (1, 1)),), FLIPS))
CHANCE = (errors.NotBetween, (1, 2), (None, (2, 4), (1, 4), (1, 1), DEEP, [1, 2], (True, 2), 0))
BOUNDED = (("graph", ONE_LOT), ("sizes", TWO_SIZES), ("told", BOW_TOLD), ("tables", BOW_TABLES))

CALLS = {
    graphs.index_of: (("graph", GRAPH), ("name", NAME)),
    graphs.parents: (("graph", GRAPH), ("name", NAME)),
    graphs.children: (("graph", GRAPH), ("name", NAME)),
    graphs.hidden_lots: (("graph", GRAPH), ("name", NAME)),
    graphs.is_lot_of: (("graph", GRAPH), ("value", (None, (0,), ()))),
    text.read_graph: (("text", GRAPH_TEXT),),
    text.read_lot: (("graph", GRAPH), ("text", LOT_TEXT)),
    text.read_model: (("text", MODEL_TEXT),),
    text.read_formula: (("graph", GRAPH), ("told", TOLD), ("text", FORMULA_TEXT)),
    text.show_graph: (("graph", GRAPH),),
    text.show_lot: (("graph", GRAPH), ("lot", LOT)),
    text.show_model: (("model", MODEL),),
    text.show_formula: (("graph", GRAPH), ("told", TOLD), ("formula", FORMULA)),
    models.is_positive: (("model", MODEL),),
    models.table: (("model", MODEL), ("lot", TWO_LOT)),
    models.effect: (("model", MODEL), ("deeds", TWO_LOT), ("asked", OTHER_LOT)),
    rounds.ancestors: (("graph", GRAPH), ("lot", WHOLE_LOT), ("starts", LOT)),
    rounds.districts: (("graph", GRAPH), ("lot", LOT)),
    rounds.needed: (("graph", GRAPH), ("deeds", LOT), ("asked", ASKED)),
    rounds.needs: (("graph", GRAPH), ("deeds", LOT), ("asked", ASKED)),
    rounds.rounds: (("graph", GRAPH), ("lot", WHOLE_LOT), ("ends", ENDS)),
    rounds.greatest_hedge: (("graph", GRAPH), ("lot", WHOLE_LOT), ("ends", ENDS)),
    identify.is_identified: ASK,
    identify.helpful: ASK,
    identify.derivation: ASK,
    identify.is_derivation: ASK + (VALUE,),
    identify.formula: ASK,
    identify.formula_along: ASK + (("value", DERIVATION),),
    identify.stuck: ASK,
    identify.least_told: ASK,
    identify.single_lots: (("graph", GRAPH), ("deeds", LOT), ("asked", ASKED)),
    values.value_of: (("graph", GRAPH), ("sizes", SIZES), ("told", TOLD), ("tables", TABLES), ("formula", FORMULA)),
    values.told_effect: (("graph", GRAPH), ("sizes", SIZES), ("told", TOLD), ("tables", TABLES), ("deeds", LOT),
                         ("asked", ASKED)),
    twomodels.is_hedge: (("graph", GRAPH), ("small", LOT), ("great", WHOLE_LOT), ("within", WHOLE_LOT)),
    twomodels.modes: (("graph", BOW_GRAPH), ("small", SMALL), ("hedges", HEDGES)),
    twomodels.two_models: BOW_ASK,
    bounds.types: (("graph", ONE_LOT), ("sizes", TWO_SIZES)),
    bounds.papers: BOUNDED + (("question", QUESTION),),
    bounds.bounds: BOUNDED + (("question", QUESTION),),
    bounds.between: BOUNDED + (("question", QUESTION), ("value", CHANCE)),
    bounds.model_of: BOUNDED + (("weights", WEIGHTS),),
    certificates.certify_identified: ASK,
    certificates.certify_models: BOW_ASK,
    certificates.certify_hedge: (("graph", GRAPH), ("lot", WHOLE_LOT), ("ends", ENDS)),
    certificates.certify_formula: ASK,
    certificates.certify_table: (("model", MODEL), ("lot", TWO_LOT)),
    certificates.certify_effect: (("model", MODEL), ("deeds", TWO_LOT), ("asked", OTHER_LOT)),
    certificates.certify_bounds: BOUNDED + (("question", QUESTION),),
    certificates.certify_between: BOUNDED + (("question", QUESTION), ("value", CHANCE)),
}
# What each call is asked of a graph with as many names and hidden lots as can be, behind the graph.
WHOLE = tuple(range(8))
GREAT = {
    graphs.parents: ("h",), graphs.is_lot_of: (WHOLE,), text.show_graph: (), text.show_lot: (WHOLE,),
    text.show_formula: ((WHOLE,), ("told", 0)), rounds.ancestors: (WHOLE, (7,)), rounds.districts: (WHOLE,),
    rounds.needed: ((0,), (7,)), rounds.needs: ((0,), (7,)), rounds.rounds: (WHOLE, (7,)), rounds.greatest_hedge: (WHOLE, (7,)),
    identify.is_identified: ((WHOLE,), (0,), (7,)), identify.helpful: ((WHOLE,), (0,), (7,)),
    identify.derivation: ((WHOLE,), (0,), (7,)), identify.is_derivation: ((WHOLE,), (0,), (7,), ()),
    identify.formula: ((WHOLE,), (), (7,)), identify.formula_along: ((WHOLE,), (), WHOLE, ((0, (WHOLE,)),)),
    identify.stuck: ((WHOLE,), (0,), (7,)), identify.least_told: ((WHOLE,), (0,), (7,)), identify.single_lots: ((0,), (7,)),
    values.value_of: ((2,) * 8, (WHOLE,), (((1, 256),) * 256,), ("told", 0)),
    values.told_effect: ((2,) * 8, (WHOLE,), (((1, 256),) * 256,), (), (7,)),
    twomodels.is_hedge: ((7,), WHOLE, WHOLE), twomodels.modes: ((7,), (WHOLE,)),
    twomodels.two_models: ((WHOLE,), tuple(range(7)), (7,)), certificates.certify_models: ((WHOLE,), tuple(range(7)), (7,)),
    certificates.certify_identified: ((WHOLE,), (0,), (7,)), certificates.certify_hedge: (WHOLE, (7,)),
    certificates.certify_formula: ((WHOLE,), (), (7,)),
}


INDEXED = (errors.InvalidTold, errors.InvalidTables, errors.InvalidHedges)


def told_of(error, found):
    """What an error keeps, in the order in which the wrong values tell it."""
    if error is errors.InvalidText:
        return (found.line, found.column)
    if error in INDEXED:
        return (found.index,)
    return (found.given,)


def wrong_values(told):
    """Pairs of each wrong value and what its error keeps."""
    error, _, wrong = told
    for value in wrong:
        if error is errors.InvalidText or error in INDEXED:
            yield value[0], tuple(value[1:])
        else:
            yield value, (value,)


def rows_of_values(told):
    """Rows of right and wrong values, and of what is kept: of up to three arguments all, of more up to two wrong ones."""
    right = [(kind[1], None) for _, kind in told]
    if len(told) < 4:
        yield from product(*([one] + list(wrong_values(kind)) for one, (_, kind) in zip(right, told)))
        return
    for places in (few for size in (1, 2) for few in combinations(range(len(told)), size)):
        for row in product(*(wrong_values(told[at][1]) for at in places)):
            given = list(right)
            for at, one in zip(places, row):
                given[at] = one
            yield given


class Arguments(unittest.TestCase):
    def test_the_names_of_the_arguments(self):
        for call, told in CALLS.items():
            self.assertEqual(list(inspect.signature(call).parameters), [name for name, _ in told], call)
        self.assertEqual(list(inspect.signature(graphs.is_graph).parameters), ["value"])
        self.assertEqual(list(inspect.signature(checker.accepts).parameters), ["claim", "paper"])
        self.assertEqual(list(inspect.signature(desk.Desk).parameters), [])
        self.assertEqual(list(inspect.signature(desk.Desk().say).parameters), ["line"])
        self.assertEqual(list(inspect.signature(desk.Desk().told).parameters), [])

    def test_right_ones(self):
        for call, told in CALLS.items():
            right = [kind[1] for _, kind in told]
            by_name = {name: kind[1] for name, kind in reversed(told)}
            self.assertEqual(call(*right), call(**by_name))

    def test_wrong_ones_by_themselves_and_together(self):
        # Each argument is right or wrong; the first wrong one is told, whatever the others are.
        tried = 0
        for call, told in CALLS.items():
            for row in rows_of_values(told):
                wrong = [(kind[0], keeps) for (_, kind), (_, keeps) in zip(told, row) if keeps is not None]
                if wrong:
                    tried += 1
                    given = [value for value, _ in row]
                    self.check(wrong[0], call, given, {})
                    self.check(wrong[0], call, [], {name: value for (name, _), value in zip(told, given)})
                    self.check(wrong[0], call, given[:1], {
                        name: value for (name, _), value in reversed(list(zip(told, given))[1:])})
        self.assertGreater(tried, 14000)

    def test_the_greatest_graphs(self):
        # Eight names and 28 hidden lots are taken; one name or one lot more is not, whatever stands behind.
        graph = (EIGHT, PAIRS, PAIRS)
        nine = (EIGHT + ("i",), PAIRS, PAIRS)
        crowd = (EIGHT, PAIRS, tuple(sorted(PAIRS + ((0, 1, 2),))))
        self.assertEqual((len(graph[2]), len(crowd[2])), (28, 29))
        for call, rest in GREAT.items():
            call(graph, *rest)
            for wrong in (nine, crowd):
                with self.assertRaises(errors.InvalidGraph) as found:
                    call(wrong, *rest)
                self.assertIs(found.exception.given, wrong)

    def check(self, wrong, call, given, named):
        error, keeps = wrong
        with self.assertRaises(errors.CausalError) as found:
            call(*given, **named)
        self.assertIs(type(found.exception), error)
        for one, other in zip(told_of(error, found.exception), keeps):
            if error is errors.InvalidText or error in INDEXED:
                self.assertEqual(one, other)
            else:
                self.assertIs(one, other)

    def test_nothing_that_was_passed_is_changed(self):
        for call, told in CALLS.items():
            right = [kind[1] for _, kind in told]
            for at in range(len(told)):
                before = copy.deepcopy(LIST)
                try:
                    call(*right[:at], LIST, *right[at + 1:])
                except errors.CausalError as found:
                    self.assertIsNot(type(found), errors.CausalError)
                self.assertEqual(LIST, before)


if __name__ == "__main__":
    unittest.main()
