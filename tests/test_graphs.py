"""causaleffects.graphs: points 4, 5, 6, A1 and the interface."""

import unittest
from itertools import combinations

from causaleffects.errors import InvalidGraph, InvalidLot, InvalidName
from causaleffects.graphs import children, hidden_lots, index_of, is_graph, is_lot_of, parents
from causaleffects.text import show_lot
from helpers import BOW, DOOR, EIGHT, LONE, PAIRS, PLAIN, WRONG, bends, nested, refusal

WORDS = ("names", "arrows", "hidden", "sizes", "lot", "table", "told", "sum", "on")
SIX_LOTS = tuple(sorted(lot for size in range(2, 7) for lot in combinations(range(6), size)))


class Names(unittest.TestCase):
    def test_names(self):
        for name in ("x", "z", "a1", "x0", "abcdefgh", "a1234567", "zz9zz9zz", "q"):
            self.assertTrue(is_graph(((name,), (), ())), name)

    def test_what_is_no_name(self):
        for name in ("", "X", "1", "1x", "0", "_x", "x_", "x y", " x", "x ", "x\n", "-x", "abcdefghi", "a12345678",
                     "xY", "x.", "\u00e9", "x\u00e9", "\u0430", "x\u0661", "x\u00b2", "a" * 1000, "\ud800", "#x", "x#"):
            self.assertFalse(is_graph(((name,), (), ())), name)

    def test_words_are_no_names(self):
        for word in WORDS:
            self.assertFalse(is_graph(((word,), (), ())), word)
            self.assertFalse(is_graph((("x", word), (), ())), word)
            self.assertTrue(is_graph(((word + "1", word[:-1] + "0"), (), ())), word)
        for name in ("name", "arrow", "hid", "size", "lots", "tables", "tell", "sums", "one", "o", "n"):
            self.assertTrue(is_graph(((name,), (), ())), name)

    def test_names_are_unlike(self):
        self.assertFalse(is_graph((("x", "x"), (), ())))
        self.assertFalse(is_graph((("x", "y", "x"), (), ())))
        self.assertTrue(is_graph((("y", "x", "z"), (), ())))

    def test_one_to_eight(self):
        self.assertFalse(is_graph(((), (), ())))
        for count in range(1, 9):
            self.assertTrue(is_graph((EIGHT[:count], (), ())))
        self.assertFalse(is_graph((EIGHT + ("i",), (), ())))
        self.assertFalse(is_graph((EIGHT + ("i", "j"), (), ())))


class Arrows(unittest.TestCase):
    def test_arrows(self):
        self.assertTrue(is_graph((EIGHT, PAIRS, ())))
        self.assertTrue(is_graph((("x", "y", "z"), ((0, 2), (1, 2)), ())))
        for arrow in PAIRS:
            self.assertTrue(is_graph((EIGHT, (arrow,), ())))

    def test_wrong_arrows(self):
        three = ("x", "y", "z")
        for arrows in (((1, 0),), ((0, 0),), ((0, 1), (0, 1)), ((1, 2), (0, 1)), ((0, 2), (0, 1)), ((0, 3),), ((-1, 0),),
                       ((0,),), ((0, 1, 2),), ((),), (0, 1), ((False, 1),), ((0, True),), ((0, 1), (0, True)),
                       (("x", "y"),), ((0, "y"),), ((None, 1),), ([0, 1],), [(0, 1)], [], None, "", {(0, 1)}, {},
                       ((0, 10 ** 40),)):
            self.assertFalse(is_graph((three, arrows, ())), arrows)


class HiddenLots(unittest.TestCase):
    def test_up_to_28(self):
        for count in (0, 1, 2, 27, 28):
            self.assertTrue(is_graph((EIGHT, (), PAIRS[:count])))
            self.assertTrue(is_graph((EIGHT[:6], (), SIX_LOTS[:count])))
        self.assertEqual(len(PAIRS), 28)
        self.assertFalse(is_graph((EIGHT, (), PAIRS + ((6, 7, 8),))))
        for count in (29, 30, len(SIX_LOTS)):
            self.assertFalse(is_graph((EIGHT[:6], (), SIX_LOTS[:count])))

    def test_order(self):
        three = ("x", "y", "z")
        self.assertTrue(is_graph((three, (), ((0, 1), (0, 1, 2), (0, 2), (1, 2)))))
        for lots in (((0, 1, 2), (0, 1)), ((0, 2), (0, 1, 2)), ((1, 2), (0, 1)), ((0, 1), (0, 1))):
            self.assertFalse(is_graph((three, (), lots)), lots)

    def test_wrong_lots(self):
        three = ("x", "y", "z")
        for lots in (((0,),), ((),), ((1, 0),), ((0, 0),), ((0, 3),), ((-1, 0),), ((0, 2, 1),), ((0, 1, 1),), (0, 1),
                     ((0, True),), ((False, 1),), (("x", "y"),), [(0, 1)], ([0, 1],), [], None, "", ((0, None),)):
            self.assertFalse(is_graph((three, (), lots)), lots)


class Graphs(unittest.TestCase):
    def test_graphs(self):
        for graph in (DOOR, BOW, PLAIN, LONE, (EIGHT, PAIRS, PAIRS), (("x", "y"), (), ((0, 1),))):
            self.assertIs(is_graph(graph), True)

    def test_what_is_none(self):
        for value in WRONG + ((), ((), ()), DOOR + ((),), DOOR[:2], (DOOR,), list(DOOR), "names x;", ("x", (), ())):
            self.assertIs(is_graph(value), False)

    def test_bent_ones(self):
        for graph in (DOOR, BOW, PLAIN, LONE):
            for value in bends(graph):
                self.assertIs(is_graph(value), False, repr(value))

    def test_nothing_is_changed(self):
        value = [["x", "y"], [[0, 1]], []]
        self.assertFalse(is_graph(value))
        self.assertEqual(value, [["x", "y"], [[0, 1]], []])

    def test_by_name(self):
        self.assertTrue(is_graph(value=DOOR))
        self.assertFalse(is_graph(value=None))


class Lots(unittest.TestCase):
    def test_lots(self):
        for size in range(9):
            for lot in combinations(range(8), size):
                self.assertIs(is_lot_of((EIGHT, (), ()), lot), True)

    def test_what_is_none(self):
        for value in WRONG + ((0, 0), (1, 0), (3,), (0, 3), (-1,), (0, 2, 1), [0], [], "", "x", ("x",), ((0,),), 0, 1,
                              (0, None), (None, 0), (0, True), (False,), (0, "y"), (10 ** 399,)):
            self.assertIs(is_lot_of(DOOR, value), False, repr(value))
        self.assertTrue(is_lot_of(LONE, (0,)))
        self.assertFalse(is_lot_of(LONE, (1,)))

    def test_bent_ones(self):
        for lot in ((0, 1, 2), (0,), (1, 2)):
            for value in bends(lot):
                self.assertIs(is_lot_of(DOOR, value), False, repr(value))

    def test_wrong_lots_are_refused(self):
        for value in bends((0, 1)):
            self.assertIs(refusal(InvalidLot, show_lot, DOOR, value).given, value)

    def test_by_name(self):
        self.assertTrue(is_lot_of(graph=DOOR, value=()))


class Neighbours(unittest.TestCase):
    def test_index_of(self):
        for at, name in enumerate(EIGHT):
            self.assertEqual(index_of((EIGHT, PAIRS, ()), name), at)
        self.assertEqual(index_of(graph=DOOR, name="m"), 1)

    def test_parents_and_children(self):
        full = (EIGHT, PAIRS, ())
        for at, name in enumerate(EIGHT):
            self.assertEqual(parents(full, name), tuple(range(at)))
            self.assertEqual(children(full, name), tuple(range(at + 1, 8)))
        self.assertEqual([parents(DOOR, name) for name in "xmy"], [(), (0,), (1,)])
        self.assertEqual([children(DOOR, name) for name in "xmy"], [(1,), (2,), ()])
        fork = (("a", "b", "c", "d"), ((0, 2), (0, 3), (1, 3)), ())
        self.assertEqual([parents(graph=fork, name=name) for name in "abcd"], [(), (), (0,), (0, 1)])
        self.assertEqual([children(graph=fork, name=name) for name in "abcd"], [(2, 3), (3,), (), ()])

    def test_hidden_lots(self):
        graph = (("a", "b", "c", "d"), (), ((0, 1), (0, 1, 2), (0, 2), (1, 2)))
        self.assertEqual(hidden_lots(graph, "a"), ((0, 1), (0, 1, 2), (0, 2)))
        self.assertEqual(hidden_lots(graph, "b"), ((0, 1), (0, 1, 2), (1, 2)))
        self.assertEqual(hidden_lots(graph, "c"), ((0, 1, 2), (0, 2), (1, 2)))
        self.assertEqual(hidden_lots(graph=graph, name="d"), ())

    def test_a_name_of_another_graph(self):
        for call in (index_of, parents, children, hidden_lots):
            for name in WRONG + ("z", "M", "m ", "xm", "names", 0, 1, 2, (), ("m",), ["m"], b"m"):
                self.assertIs(refusal(InvalidName, call, DOOR, name).given, name)
                self.assertIs(refusal(InvalidName, call, graph=DOOR, name=name).given, name)

    def test_a_wrong_graph_is_told_first(self):
        for call, second in ((index_of, "name"), (parents, "name"), (children, "name"), (hidden_lots, "name"),
                             (is_lot_of, "value")):
            for graph in WRONG + (list(DOOR), DOOR[:2], (("x", "y"), ((1, 0),), ())):
                for other in ("x", "?", None, nested(300)):
                    self.assertIs(refusal(InvalidGraph, call, graph, other).given, graph)
                    self.assertIs(refusal(InvalidGraph, call, **{second: other, "graph": graph}).given, graph)


if __name__ == "__main__":
    unittest.main()
