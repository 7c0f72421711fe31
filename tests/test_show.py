"""Showing graphs, lots, models and formulas: point A7."""

import random
import unittest
from itertools import combinations

from causaleffects.text import (read_formula, read_graph, read_lot, read_model, show_formula, show_graph, show_lot,
                                show_model)
from helpers import BOW, DOOR, EIGHT, FLIPS, LONE, PAIRS, PLAIN, SEEN, some_models

LEAF = ("told", 0)
SUM = ("sum", (1,), LEAF)
OVER = ("over", LEAF, LEAF)
TIMES = ("times", LEAF, LEAF)
TOLD = ((0, 1, 2), (1,))


def some_formula(source, depth):
    """A FORMULA over two told lots, up to so deep."""
    word = source.choice(("told", "sum", "over", "times")) if depth > 1 else "told"
    if word == "told":
        return (word, source.randint(0, 1))
    if word == "sum":
        lot = tuple(one for one in range(3) if source.random() < 0.5)
        return (word, lot, some_formula(source, depth - 1))
    count = 2 if word == "over" else source.randint(2, 4)
    return (word,) + tuple(some_formula(source, depth - 1) for _ in range(count))


class Graphs(unittest.TestCase):
    def test_sign_by_sign(self):
        for graph, text in (
                (LONE, "names x;"), (PLAIN, "names x, y;\narrows x -> y;"),
                ((("x", "y"), (), ((0, 1),)), "names x, y;\nhidden {x, y};"),
                (BOW, "names x, y;\narrows x -> y;\nhidden {x, y};"),
                (DOOR, "names x, m, y;\narrows x -> m, m -> y;\nhidden {x, y};"),
                ((("c", "b", "a"), ((0, 1), (0, 2), (1, 2)), ((0, 1), (0, 1, 2), (0, 2))),
                 "names c, b, a;\narrows c -> b, c -> a, b -> a;\nhidden {c, b}, {c, b, a}, {c, a};")):
            self.assertEqual(show_graph(graph), text)
            self.assertEqual(show_graph(graph=graph), text)
            self.assertEqual(read_graph(text), graph)

    def test_the_greatest(self):
        graph = (EIGHT, PAIRS, PAIRS)
        arrows = ", ".join(f"{EIGHT[a]} -> {EIGHT[b]}" for a, b in PAIRS)
        lots = ", ".join("{" + EIGHT[a] + ", " + EIGHT[b] + "}" for a, b in PAIRS)
        text = f"names {', '.join(EIGHT)};\narrows {arrows};\nhidden {lots};"
        self.assertEqual(show_graph(graph), text)
        self.assertEqual(read_graph(text), graph)

    def test_read_in_another_way(self):
        told = "names x, m, y;\narrows x -> m, x -> y, m -> y;\nhidden {x, m}, {x, y};"
        for text in ("names x,m,y;arrows m->y,x->y,x->m;hidden{y,x},{m,x};", told + "\n", "# door\n" + told,
                     "names x , m , y ; arrows x -> m -> y , x -> y ; hidden { x , y } , { x , m } ;"):
            self.assertEqual(show_graph(read_graph(text)), told)


class Lots(unittest.TestCase):
    def test_sign_by_sign(self):
        for lot, text in (((), "{}"), ((0,), "{x}"), ((1,), "{m}"), ((0, 2), "{x, y}"), ((0, 1, 2), "{x, m, y}")):
            self.assertEqual(show_lot(DOOR, lot), text)
            self.assertEqual(show_lot(lot=lot, graph=DOOR), text)
            self.assertEqual(read_lot(DOOR, text), lot)
        self.assertEqual(show_lot(DOOR, read_lot(DOOR, "{y,x , m}")), "{x, m, y}")
        self.assertEqual(show_lot(DOOR, read_lot(DOOR, " { } ")), "{}")


class Models(unittest.TestCase):
    def test_sign_by_sign(self):
        half = ((1, 2), (1, 2))
        for model, text in (
                ((LONE, (2,), (), ((half,),)), "names x;\nsizes 2;\ntable x: 1/2, 1/2;"),
                ((LONE, (3,), (), ((((0, 1), (1, 1), (0, 1)),),)), "names x;\nsizes 3;\ntable x: 0, 1, 0;"),
                (FLIPS, "names x, y;\narrows x -> y;\nsizes 2, 2;\ntable x: 1/3, 2/3;\n"
                        "table y: 1/2, 1/2 | 1/4, 3/4;"),
                ((BOW, (2, 2), (((1, 3), (2, 3)),), ((half, half), (half, half, ((1, 1), (0, 1)), half))),
                 "names x, y;\narrows x -> y;\nhidden {x, y};\nsizes 2, 2;\nlot {x, y}: 1/3, 2/3;\n"
                 "table x: 1/2, 1/2 | 1/2, 1/2;\ntable y: 1/2, 1/2 | 1/2, 1/2 | 1, 0 | 1/2, 1/2;")):
            self.assertEqual(show_model(model), text)
            self.assertEqual(show_model(model=model), text)
            self.assertEqual(read_model(text), model)

    def test_two_lots(self):
        graph = (("a", "b", "c"), (), ((0, 1), (1, 2)))
        half, one = ((1, 2), (1, 2)), ((1, 1),)
        text = ("names a, b, c;\nhidden {a, b}, {b, c};\nsizes 2, 2, 2;\nlot {a, b}: 1;\nlot {b, c}: 1/2, 1/2;\n"
                "table a: 1/2, 1/2;\ntable b: 1/2, 1/2 | 1/2, 1/2;\ntable c: 1/2, 1/2 | 1/2, 1/2;")
        model = (graph, (2, 2, 2), (one, half), ((half,), (half, half), (half, half)))
        self.assertEqual(show_model(model), text)
        self.assertEqual(read_model(text), model)

    def test_read_in_another_way(self):
        told = "names x;\nsizes 2;\ntable x: 1/3, 2/3;"
        for text in ("names x;sizes 2;table x:1/3,2/3;", "names x; sizes 2; table x: 10/30, 4 / 6;", told + "# end"):
            self.assertEqual(show_model(read_model(text)), told)
        self.assertEqual(show_model(read_model("names x; sizes 2; table x: 5/5, 0/5;")),
                         "names x;\nsizes 2;\ntable x: 1, 0;")

    def test_read_again_they_tell_the_same(self):
        for model in some_models():
            text = show_model(model)
            self.assertEqual(read_model(text), model)
            self.assertEqual(show_model(read_model(text)), text)
            self.assertEqual(show_graph(model[0]), text[:len(show_graph(model[0]))])

    def test_numbers_of_400_figures(self):
        many = 10 ** 399
        model = (LONE, (2,), (), ((((1, many), (many - 1, many)),),))
        self.assertEqual(show_model(model), f"names x;\nsizes 2;\ntable x: 1/{many}, {many - 1}/{many};")
        self.assertEqual(read_model(show_model(model)), model)


class Formulas(unittest.TestCase):
    def test_sign_by_sign(self):
        for formula, text in (
                (LEAF, "told 0"), (("told", 1), "told 1"), (("sum", (), LEAF), "sum {} told 0"), (SUM, "sum {m} told 0"),
                (("sum", (0, 2), SUM), "sum {x, y} sum {m} told 0"), (OVER, "told 0 / told 0"), (TIMES, "told 0 * told 0"),
                (("times", LEAF, ("told", 1), LEAF), "told 0 * told 1 * told 0"),
                (("sum", (0,), OVER), "sum {x} (told 0 / told 0)"), (("sum", (0,), TIMES), "sum {x} (told 0 * told 0)"),
                (("over", OVER, LEAF), "(told 0 / told 0) / told 0"), (("over", LEAF, OVER), "told 0 / (told 0 / told 0)"),
                (("over", OVER, OVER), "(told 0 / told 0) / (told 0 / told 0)"),
                (("over", TIMES, LEAF), "told 0 * told 0 / told 0"), (("over", LEAF, TIMES), "told 0 / told 0 * told 0"),
                (("over", TIMES, TIMES), "told 0 * told 0 / told 0 * told 0"),
                (("over", SUM, SUM), "sum {m} told 0 / sum {m} told 0"),
                (("times", TIMES, LEAF), "(told 0 * told 0) * told 0"), (("times", LEAF, TIMES), "told 0 * (told 0 * told 0)"),
                (("times", OVER, LEAF), "(told 0 / told 0) * told 0"), (("times", LEAF, OVER), "told 0 * (told 0 / told 0)"),
                (("times", SUM, SUM), "sum {m} told 0 * sum {m} told 0"),
                (("sum", (0,), ("times", SUM, OVER)), "sum {x} (sum {m} told 0 * (told 0 / told 0))"),
                (("sum", (), ("times", OVER, LEAF)), "sum {} ((told 0 / told 0) * told 0)"),
                (("over", ("times", OVER, TIMES), ("sum", (), OVER)),
                 "(told 0 / told 0) * (told 0 * told 0) / sum {} (told 0 / told 0)")):
            self.assertEqual(show_formula(DOOR, TOLD, formula), text)
            self.assertEqual(show_formula(formula=formula, told=TOLD, graph=DOOR), text)
            self.assertEqual(read_formula(DOOR, TOLD, text), formula)

    def test_read_in_another_way(self):
        for text, told in (("((told 0))", "told 0"), ("(sum{y}(told 0))", "sum {y} told 0"),
                           ("sum {y, x} ( told 0/told 0 )", "sum {x, y} (told 0 / told 0)"),
                           ("(told 0 * told 0) / (told 0 * told 0)", "told 0 * told 0 / told 0 * told 0"),
                           ("(sum {x} told 0)*((told 0))", "sum {x} told 0 * told 0"),
                           ("((told 0 / told 0)) / told 0", "(told 0 / told 0) / told 0")):
            self.assertEqual(show_formula(DOOR, SEEN, read_formula(DOOR, SEEN, text)), told)

    def test_read_again_they_tell_the_same(self):
        source = random.Random(7)
        for _ in range(400):
            formula = some_formula(source, source.randint(1, 6))
            text = show_formula(DOOR, TOLD, formula)
            self.assertEqual(read_formula(DOOR, TOLD, text), formula)
            self.assertNotIn("  ", text)

    def test_the_deepest(self):
        for words in (("sum",), ("over",), ("times",), ("sum", "times"), ("sum", "over"), ("over", "times")):
            formula = LEAF
            for depth in range(59):
                word = words[depth % len(words)]
                formula = ("sum", (0,), formula) if word == "sum" else (word, LEAF, formula)
            text = show_formula(DOOR, SEEN, formula)
            self.assertEqual(read_formula(DOOR, SEEN, text), formula)

    def test_lots_of_each_kind(self):
        for size in range(4):
            for lot in combinations(range(3), size):
                text = "sum " + show_lot(DOOR, lot) + " told 0"
                self.assertEqual(show_formula(DOOR, SEEN, ("sum", lot, LEAF)), text)


if __name__ == "__main__":
    unittest.main()
