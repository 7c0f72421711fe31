"""The examples of the interface, word for word, and that its names stand where it lists them."""

import unittest

from causaleffects import errors, graphs, models, text
from causaleffects.errors import InvalidText

TEXT_SESSION = """
>>> from causaleffects.graphs import children, hidden_lots, index_of, is_graph, is_lot_of, parents
>>> from causaleffects.text import read_formula, read_graph, read_lot, read_model, show_formula, show_graph, show_lot, show_model
>>> door = read_graph("names x, m, y; arrows x -> m -> y; hidden {y, x};")
>>> door
(('x', 'm', 'y'), ((0, 1), (1, 2)), ((0, 2),))
>>> [is_graph(door), is_graph((("x", "y"), ((1, 0),), ())), index_of(door, "y"), parents(door, "y"), children(door, "x"), hidden_lots(door, "x")]
[True, False, 2, (1,), (1,), ((0, 2),)]
>>> [show_graph(door), read_lot(door, "{ y, m }"), show_lot(door, ()), is_lot_of(door, (2, 1))]
['names x, m, y;\\narrows x -> m, m -> y;\\nhidden {x, y};', (1, 2), '{}', False]
>>> coin = read_model("names x; sizes 2; table x: 1/3, 4/6;")
>>> [coin, show_model(coin)]
[((('x',), (), ()), (2,), (), ((((1, 3), (2, 3)),),)), 'names x;\\nsizes 2;\\ntable x: 1/3, 2/3;']
>>> some = read_formula(door, ((0, 1, 2),), "sum {y} told 0 / sum {m, y} told 0")
>>> [some, show_formula(door, ((0, 1, 2),), ("sum", (), ("times", some, ("told", 0))))]
[('over', ('sum', (2,), ('told', 0)), ('sum', (1, 2), ('told', 0))), 'sum {} ((sum {y} told 0 / sum {m, y} told 0) * told 0)']
"""
MODELS_SESSION = """
>>> from causaleffects.models import effect, is_positive, table
>>> plain = (("x", "y"), ((0, 1),), ())
>>> flips = (plain, (2, 2), (), ((((1, 3), (2, 3)),), (((1, 2), (1, 2)), ((1, 4), (3, 4)))))
>>> [table(flips, (0, 1)), table(flips, (1,)), effect(flips, (0,), (1,)), is_positive(flips)]
[((1, 6), (1, 6), (1, 6), (1, 2)), ((1, 2), (1, 2), (1, 4), (3, 4)), ((1, 2), (1, 2), (1, 4), (3, 4)), True]
"""
LISTED = {
    errors: ("CausalError", "InvalidGraph", "InvalidName", "InvalidLot", "InvalidSizes", "InvalidModel", "InvalidAsked",
             "InvalidFormula", "TooMany", "InvalidLine", "NotWithin", "InvalidDerivation", "InvalidWeights", "NotBetween",
             "InvalidTold", "InvalidTables", "InvalidHedges", "InvalidText", "NotIdentified", "Identified", "NoModel"),
    graphs: ("is_graph", "is_lot_of", "index_of", "parents", "children", "hidden_lots"),
    text: ("read_graph", "read_lot", "read_model", "read_formula", "show_graph", "show_lot", "show_model", "show_formula"),
    models: ("is_positive", "table", "effect"),
}


class Examples(unittest.TestCase):
    def replay(self, session, known):
        """Each value that a line tells is shown as the line below it says."""
        lines = session.strip().split("\n")
        for line, behind in zip(lines, lines[1:] + [">>> "]):
            if line.startswith(">>> "):
                if behind.startswith(">>> "):
                    exec(line[4:], known)
                else:
                    self.assertEqual(repr(eval(line[4:], known)), behind)

    def test_text(self):
        known = {}
        self.replay(TEXT_SESSION, known)
        self.assertIn("some", known)
        with self.assertRaises(InvalidText) as found:
            known["read_graph"]("names x, y; arrows y -> x;")
        self.assertEqual((found.exception.line, found.exception.column), (1, 25))

    def test_models(self):
        known = {}
        self.replay(MODELS_SESSION, known)
        self.assertIn("flips", known)

    def test_names_stand_where_they_are_listed(self):
        for module, names in LISTED.items():
            for name in names:
                self.assertEqual(getattr(module, name).__module__, module.__name__)


if __name__ == "__main__":
    unittest.main()
