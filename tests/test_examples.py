"""The examples of the interface, word for word, and that its names stand where it lists them."""

import unittest

from causaleffects import (bounds, certificates, checker, desk, errors, graphs, identify, models, rounds, text, twomodels,
                           values)
from causaleffects.errors import Identified, InvalidText

TEXT_SESSION = """
>>> from causaleffects.graphs import children, hidden_lots, index_of, is_graph, is_lot_of, parents
>>> from causaleffects.text import read_formula, read_graph, read_lot, read_model, show_formula, show_graph, show_lot, show_model
>>> door = read_graph("names x, m, y; arrows x -> m -> y; hidden {y, x};")
>>> door
(('x', 'm', 'y'), ((0, 1), (1, 2)), ((0, 2),))
>>> [is_graph(door), is_graph((("x", "y"), ((1, 0),), ())), index_of(door, "y"), parents(door, "y"), children(door, "x"), hidden_lots(door, "x")]
[True, False, 2, (1,), (1,), ((0, 2),)]
>>> [show_graph(door), read_lot(door, "{ y, m }"), show_lot(door, ()), is_lot_of(door, (2, 1))]
['names x, m, y;\\narrows x -> m, m -> y;\\nhidden {x, y};', (1, 2), '{}', False]
>>> coin = read_model("names x; sizes 2; table x: 1/3, 4/6;")
>>> [coin, show_model(coin)]
[((('x',), (), ()), (2,), (), ((((1, 3), (2, 3)),),)), 'names x;\\nsizes 2;\\ntable x: 1/3, 2/3;']
>>> some = read_formula(door, ((0, 1, 2),), "sum {y} told 0 / sum {m, y} told 0")
>>> [some, show_formula(door, ((0, 1, 2),), ("sum", (), ("times", some, ("told", 0))))]
[('over', ('sum', (2,), ('told', 0)), ('sum', (1, 2), ('told', 0))), 'sum {} ((sum {y} told 0 / sum {m, y} told 0) * told 0)']
"""
MODELS_SESSION = """
>>> from causaleffects.models import effect, is_positive, table
>>> plain = (("x", "y"), ((0, 1),), ())
>>> flips = (plain, (2, 2), (), ((((1, 3), (2, 3)),), (((1, 2), (1, 2)), ((1, 4), (3, 4)))))
>>> [table(flips, (0, 1)), table(flips, (1,)), effect(flips, (0,), (1,)), is_positive(flips)]
[((1, 6), (1, 6), (1, 6), (1, 2)), ((1, 2), (1, 2), (1, 4), (3, 4)), ((1, 2), (1, 2), (1, 4), (3, 4)), True]
"""
ROUNDS_SESSION = """
>>> from causaleffects.rounds import ancestors, districts, greatest_hedge, needed, needs, rounds
>>> door = (("x", "m", "y"), ((0, 1), (1, 2)), ((0, 2),))
>>> bow = (("x", "y"), ((0, 1),), ((0, 1),))
>>> [ancestors(door, (0, 2), (2,)), districts(door, (0, 1, 2)), needed(door, (0,), (2,)), needs(door, (0,), (2,))]
[(2,), ((0, 2), (1,)), (1, 2), ((1,), (2,))]
>>> [rounds(door, (0, 1, 2), (2,)), rounds(bow, (0, 1), (1,)), greatest_hedge(bow, (0, 1), (1,)), greatest_hedge(door, (0, 1, 2), (1,))]
[((0, 1, 2), (0, 2), (2,)), ((0, 1),), (0, 1), None]
"""
IDENTIFY_SESSION = """
>>> from causaleffects.identify import derivation, formula, formula_along, helpful, is_derivation, is_identified
>>> from causaleffects.identify import least_told, single_lots, stuck
>>> seen, some = ((0, 1, 2),), ((0,), (1,), (2,), (0, 1, 2))
>>> [is_identified(door, seen, (0,), (2,)), is_identified(bow, ((0, 1),), (0,), (1,)), stuck(bow, ((0,), (0, 1)), (0,), (1,))]
[True, False, ((1,), ((0, 1),))]
>>> way = ((0, ((0, 1, 2), (1,))), (0, ((0, 1, 2), (0, 2), (2,))))
>>> [is_derivation(door, seen, (0,), (2,), way), is_derivation(door, seen, (0,), (2,), ((0, ((0, 1, 2), (1,))), (0, ((0, 1, 2), (2,)))))]
[True, False]
>>> [helpful(door, some, (0,), (2,)), least_told(door, some, (0,), (2,))]
[(((1,), (1, 3)), ((2,), (2, 3))), ((1, 2), (3,))]
>>> [single_lots(door, (0,), (2,)), single_lots(bow, (0,), (1,)), least_told(bow, ((0, 1),), (0,), (1,))]
[((0, 1, 2), (1, 2)), ((1,),), ()]
"""
VALUES_SESSION = """
>>> from causaleffects.values import told_effect, value_of
>>> told = ((1, 4), (1, 12), (1, 12), (1, 12), (1, 12), (1, 12), (1, 12), (1, 4))
>>> told_effect(door, (2, 2, 2), seen, (told,), (0,), (2,))
((13, 24), (11, 24), (11, 24), (13, 24))
>>> value_of(door, (2, 2, 2), seen, (told,), ("over", ("sum", (2,), ("told", 0)), ("sum", (1, 2), ("told", 0))))
((2, 3), (2, 3), (1, 3), (1, 3), (1, 3), (1, 3), (2, 3), (2, 3))
"""
TWOMODELS_SESSION = """
>>> from causaleffects.models import effect, is_positive, table
>>> from causaleffects.twomodels import is_hedge, modes, two_models
>>> plain = (("x", "y"), ((0, 1),), ())
>>> flips = (plain, (2, 2), (), ((((1, 3), (2, 3)),), (((1, 2), (1, 2)), ((1, 4), (3, 4)))))
>>> [table(flips, (0, 1)), table(flips, (1,)), effect(flips, (0,), (1,)), is_positive(flips)]
[((1, 6), (1, 6), (1, 6), (1, 2)), ((1, 2), (1, 2), (1, 4), (3, 4)), ((1, 2), (1, 2), (1, 4), (3, 4)), True]
>>> bow = (("x", "y"), ((0, 1),), ((0, 1),))
>>> [is_hedge(bow, (1,), (0, 1), (0, 1)), is_hedge(plain, (1,), (0, 1), (0, 1)), modes(bow, (1,), ((0, 1),))]
[True, False, (((0, 1), -1), ((1,), 1))]
>>> one, two = two_models(bow, ((0, 1),), (0,), (1,))
>>> [table(one, (0, 1)) == table(two, (0, 1)), is_positive(one), is_positive(two)]
[True, True, True]
>>> (effect(one, (0,), (1,)) == effect(two, (0,), (1,)))
False
"""
BOUNDS_SESSION = """
>>> from causaleffects.bounds import between, bounds, model_of, papers, types
>>> from causaleffects.models import effect
>>> both, whole = (((1, 4), (1, 4), (1, 8), (3, 8)),), ((0, 1),)
>>> [len(types(bow, (2, 2))), types(bow, (2, 2))[:2], bounds(bow, (2, 2), whole, both, ((0,), (1,), (1, 1)))]
[8, (((0,), (0, 0)), ((0,), (0, 1))), ((3, 8), (7, 8))]
>>> some = ((((0,), (0, 0)), (1, 8)), (((0,), (0, 1)), (1, 8)), (((0,), (1, 0)), (1, 4)), (((1,), (0, 0)), (1, 8)), (((1,), (0, 1)), (3, 8)))
>>> effect(model_of(bow, (2, 2), whole, both, some), (0,), (1,))
((3, 4), (1, 4), (1, 2), (1, 2))
>>> [one[0] for one in papers(bow, (2, 2), whole, both, ((0,), (1,), (0, 1)))]
[(1, 4), (3, 4)]
"""
DESK_SESSION = """
>>> from causaleffects.certificates import certify_bounds, certify_between, certify_effect, certify_formula, certify_hedge, certify_identified, certify_models, certify_table
>>> from causaleffects.checker import accepts
>>> from causaleffects.desk import Desk
>>> from causaleffects.identify import formula
>>> bow, seen = (("x", "y"), ((0, 1),), ((0, 1),)), ((0, 1, 2),)
>>> certify_identified(bow, ((0, 1),), (0,), (1,))[1]
((1,), ((0, 1),))
>>> [certify_hedge(bow, (0, 1), (1,))[0][0], certify_hedge(door, (0, 1, 2), (1,))]
['hedge', (('no hedge', (('x', 'm', 'y'), ((0, 1), (1, 2)), ((0, 2),)), (1,), (0, 1, 2)), ((0, 1, 2), (1,)))]
>>> [accepts(("hedge", bow, (1,), (0, 1), (0, 1)), ()), accepts(("no hedge", door, (2,), (0, 1, 2)), ((0, 1, 2), (0, 2), (2,))), accepts(("not identified", bow, ((0, 1),), (0,), (1,)), ((1,), ((0, 1),)))]
[True, True, True]
>>> [accepts(("identified", door, seen, (0,), (1,)), ((0, ((0, 1, 2), (1,))),)), accepts(("table", coin, (0,), ((1, 3), (2, 3))), ()), accepts(("table", coin, (), ((1, 1), (1, 1))), None)]
[True, True, False]
>>> desk = Desk()
>>> [desk.say("told {x}"), desk.say("graph names x, m, y; arrows x -> m -> y; hidden {x, y};"), desk.say("needs {x} on {y}"), desk.say("effect {x} on {m}") == (show_formula(door, seen, formula(door, seen, (0,), (1,))),)]
[('no graph',), ('3 variables, 2 arrows, 1 hidden lot',), ('{m}', '{y}'), True]
>>> [desk.say("told {x}, {x, y}"), desk.say("effect {x} on {m}"), desk.say("least {x} on {m}"), desk.say("single {x} on {m}")]
[('2 lots',), ('not identified: {m}',), ('none',), ('{x, m}', '{x, m, y}', '{m}', '{m, y}')]
>>> [desk.say("told {m}, {y, y}"), desk.say("told {}"), desk.say("table {m}"), desk.say("parents y"), desk.say("effect {x} on {x}"), desk.say("effect")]
[('bad text at 1 10',), ('not told {}',), ('no model',), ('{m}',), ('not asked so',), ('no such line',)]
>>> [desk.say("model names x; sizes 2; table x: 1/3, 4/6;"), desk.say("table {x}"), desk.say("chances {} on {x}"), desk.say("bounds {} on {x}: 0")]
[('1 variable',), ('1/3, 2/3',), ('1/3, 2/3',), ('no bounds',)]
"""
LISTED = {
    errors: ("CausalError", "InvalidGraph", "InvalidName", "InvalidLot", "InvalidSizes", "InvalidModel", "InvalidAsked",
             "InvalidFormula", "TooMany", "InvalidLine", "NotWithin", "InvalidDerivation", "InvalidWeights", "NotBetween",
             "InvalidTold", "InvalidTables", "InvalidHedges", "InvalidText", "NotIdentified", "Identified", "NoModel"),
    graphs: ("is_graph", "is_lot_of", "index_of", "parents", "children", "hidden_lots"),
    text: ("read_graph", "read_lot", "read_model", "read_formula", "show_graph", "show_lot", "show_model", "show_formula"),
    models: ("is_positive", "table", "effect"),
    rounds: ("ancestors", "districts", "needed", "needs", "rounds", "greatest_hedge"),
    identify: ("is_identified", "helpful", "derivation", "is_derivation", "formula", "formula_along", "stuck", "least_told",
               "single_lots"),
    values: ("value_of", "told_effect"),
    twomodels: ("is_hedge", "modes", "two_models"),
    bounds: ("types", "papers", "bounds", "between", "model_of"),
    checker: ("accepts",),
    certificates: ("certify_identified", "certify_models", "certify_hedge", "certify_formula", "certify_table", "certify_effect",
                   "certify_bounds", "certify_between"),
    desk: ("Desk",),
}


class Examples(unittest.TestCase):
    def replay(self, session, known):
        """Each value that a line tells is shown as the line below it says."""
        lines = session.strip().split("\n")
        for line, behind in zip(lines, lines[1:] + [">>> "]):
            if line.startswith(">>> "):
                if behind.startswith(">>> "):
                    exec(line[4:], known)
                else:
                    self.assertEqual(repr(eval(line[4:], known)), behind)

    def test_text(self):
        known = {}
        self.replay(TEXT_SESSION, known)
        self.assertIn("some", known)
        with self.assertRaises(InvalidText) as found:
            known["read_graph"]("names x, y; arrows y -> x;")
        self.assertEqual((found.exception.line, found.exception.column), (1, 25))

    def test_models(self):
        known = {}
        self.replay(MODELS_SESSION, known)
        self.assertIn("flips", known)

    def test_rounds_identify_and_values(self):
        # The sessions go on from module to module.
        known = {}
        self.replay(ROUNDS_SESSION, known)
        self.assertEqual({"door", "bow"} - set(known), set())
        self.replay(IDENTIFY_SESSION, known)
        self.assertIn("way", known)
        self.replay(VALUES_SESSION, known)
        self.assertIn("told", known)

    def test_two_models(self):
        known = {}
        self.replay(TWOMODELS_SESSION, known)
        self.assertIn("two", known)
        with self.assertRaises(Identified):
            known["two_models"](known["bow"], ((0, 1), (1,)), (0,), (1,))

    def test_bounds_checker_certificates_and_desk(self):
        known = {}
        for session in (TEXT_SESSION, TWOMODELS_SESSION, BOUNDS_SESSION, DESK_SESSION):
            self.replay(session, known)
        self.assertIn("desk", known)
        self.assertEqual(known["desk"].told(), (known["coin"][0], ((0,),)))

    def test_names_stand_where_they_are_listed(self):
        for module, names in LISTED.items():
            for name in names:
                self.assertEqual(getattr(module, name).__module__, module.__name__)
        for name in ("say", "told"):
            self.assertIn(name, vars(desk.Desk))


if __name__ == "__main__":
    unittest.main()
