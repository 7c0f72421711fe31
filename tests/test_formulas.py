"""TOLD and FORMULAs: point A4, as read_formula and show_formula refuse what is none."""

import unittest
from itertools import combinations

from causaleffects.errors import InvalidFormula, InvalidTold
from causaleffects.text import read_formula, show_formula
from helpers import DOOR, EIGHT, LONE, SEEN, WRONG, bends, nested, refusal

LEAF = ("told", 0)
ALL_LOTS = tuple(lot for size in range(4) for lot in combinations(range(3), size))


def told_index(graph, told):
    """The index that is told of a wrong TOLD, "fine" for a right one."""
    found = []
    for call, last in ((read_formula, "told 0"), (show_formula, LEAF)):
        try:
            call(graph, told, last)
            found.append("fine")
        except InvalidTold as wrong:
            found.append(wrong.index)
    assert found[0] == found[1]
    return found[0]


def is_formula(value, told=SEEN, graph=DOOR):
    """Whether a value is taken as a FORMULA over the told lots of the graph."""
    try:
        show_formula(graph, told, value)
        return True
    except InvalidFormula as wrong:
        assert wrong.given is value
        return False


def sums(depth, within=LEAF):
    """A FORMULA of sums so deep."""
    for _ in range(depth - 1):
        within = ("sum", (), within)
    return within


def parts(count):
    """A FORMULA of so many parts, not deep."""
    if count < 3:
        return sums(count)
    factors = min(8, count - 1)
    share, rest = divmod(count - 1, factors)
    return ("times",) + tuple(parts(share + (at < rest)) for at in range(factors))


def count_parts(formula):
    """How many parts a FORMULA has."""
    if formula[0] == "told":
        return 1
    return 1 + sum(count_parts(one) for one in formula[1:] if one and type(one[0]) is str)


class Told(unittest.TestCase):
    def test_one_to_six(self):
        lots = ALL_LOTS[1:]
        for count in range(1, 7):
            self.assertEqual(told_index(DOOR, lots[:count]), "fine")
            self.assertEqual(told_index(DOOR, lots[:count][::-1]), "fine")
        self.assertIsNone(told_index(DOOR, lots))
        self.assertIsNone(told_index(DOOR, ()))
        self.assertIsNone(told_index(DOOR, lots[:6] + lots[:1]))
        self.assertIsNone(told_index(DOOR, (None,) * 7))

    def test_the_whole_is_wrong(self):
        for told in (None, True, 0, -1, "", "x", b"", [], [(0,)], {}, {(0,)}, {(0,): 1}, object, nested(300, list)):
            self.assertIsNone(told_index(DOOR, told), repr(told))

    def test_the_first_wrong_one(self):
        for wrong in WRONG + ((), (1, 0), (0, 0), (3,), [0], (True,), (0, True), "x", 0):
            self.assertEqual(told_index(DOOR, (wrong,)), 0, repr(wrong))
            self.assertEqual(told_index(DOOR, ((0,), wrong)), 1, repr(wrong))
            self.assertEqual(told_index(DOOR, ((0,), wrong, (1,), None)), 1, repr(wrong))
            self.assertEqual(told_index(DOOR, ((0,), (1,), (2,), (0, 1), (0, 2), wrong)), 5, repr(wrong))

    def test_one_twice(self):
        self.assertEqual(told_index(DOOR, ((0,), (0,))), 1)
        self.assertEqual(told_index(DOOR, ((0,), (1,), (0, 1), (1,))), 3)
        self.assertEqual(told_index(DOOR, ((0,), (1,), (1,), (0,), ())), 2)
        self.assertEqual(told_index(DOOR, ((0,), (), (0,))), 1)
        self.assertEqual(told_index(DOOR, ((0, 1), (0,), (0, 1, 2), (0, 2), (1, 2), (1, 2))), 5)

    def test_a_lot_of_another_graph(self):
        self.assertEqual(told_index(LONE, ((0,),)), "fine")
        self.assertEqual(told_index(LONE, ((0,), (0, 1))), 1)
        self.assertEqual(told_index((EIGHT, (), ()), ((7,), (0, 7))), "fine")


class Formulas(unittest.TestCase):
    def test_formulas(self):
        for value in (LEAF, ("sum", (), LEAF), ("sum", (0, 1, 2), LEAF), ("over", LEAF, LEAF), ("times", LEAF, LEAF),
                      ("times",) + (LEAF,) * 8, ("over", ("times", LEAF, ("over", LEAF, LEAF)), ("sum", (1,), LEAF))):
            self.assertTrue(is_formula(value), value)

    def test_what_is_none(self):
        for value in WRONG + (
                (), "told 0", "told", ("told",), ("told", 0, 0), ("told", "0"), ("told", (0,)), ("told", LEAF),
                ("sum",), ("sum", ()), ("sum", LEAF), ("sum", LEAF, ()), ("sum", (), LEAF, LEAF), ("sum", (1, 0), LEAF),
                ("sum", (3,), LEAF), ("sum", 0, LEAF), ("sum", [0], LEAF), ("sum", (0, 0), LEAF), ("over",),
                ("over", LEAF), ("over", LEAF, LEAF, LEAF), ("times",), ("times", LEAF), ("plus", LEAF, LEAF), ("", LEAF),
                ("Told", 0), (b"told", 0), (0, "told"), LEAF[::-1], ["told", 0], (LEAF,), (LEAF, LEAF),
                ("over", LEAF, 0), ("times", LEAF, "told"), ("sum", (), ()), ("over", (), LEAF), (("told",), 0)):
            self.assertFalse(is_formula(value), repr(value))

    def test_bent_ones(self):
        formula = ("over", ("sum", (0, 1), LEAF), ("times", ("told", 1), LEAF))
        self.assertTrue(is_formula(formula, ((0,), (1,))))
        for value in bends(formula):
            self.assertFalse(is_formula(value, ((0,), (1,))), repr(value))

    def test_indexes_of_told(self):
        for count in (1, 2, 6):
            told = ALL_LOTS[1:count + 1]
            for at in (-1, 0, 1, 5, 6, 10 ** 50, True, False, None):
                good = type(at) is int and 0 <= at < count
                self.assertEqual(is_formula(("told", at), told), good, (count, at))
                self.assertEqual(is_formula(("times", LEAF, ("sum", (0,), ("told", at))), told), good, (count, at))

    def test_factors(self):
        for count in range(12):
            self.assertEqual(is_formula(("times",) + (LEAF,) * count), 2 <= count <= 8, count)
            self.assertEqual(is_formula(("over", LEAF, ("times",) + (LEAF,) * count)), 2 <= count <= 8, count)

    def test_depth(self):
        for depth in (1, 2, 59, 60, 61, 62, 299):
            self.assertEqual(is_formula(sums(depth)), depth <= 60, depth)
        over = times = LEAF
        for depth in range(2, 70):
            over = ("over", over, LEAF) if depth % 2 else ("over", LEAF, over)
            times = ("times", LEAF, LEAF, times) if depth % 2 else ("times", times, LEAF)
            self.assertEqual(is_formula(over), depth <= 60, depth)
            self.assertEqual(is_formula(times), depth <= 60, depth)

    def test_parts(self):
        for count in (1, 2, 3, 10, 3998, 3999, 4000, 4001, 4002, 9000):
            formula = parts(count)
            self.assertEqual(count_parts(formula), count)
            self.assertEqual(is_formula(formula), count <= 4000, count)

    def test_parts_that_are_one_and_the_same_value_count_each(self):
        many = LEAF
        for depth in range(2, 61):
            many = ("times",) + (many,) * 8
            self.assertEqual(is_formula(many), depth <= 4, depth)

    def test_the_wrong_part_is_found_behind_many(self):
        good = parts(3000)
        self.assertTrue(is_formula(("over", good, LEAF)))
        self.assertFalse(is_formula(("over", good, ("told", 1))))
        self.assertFalse(is_formula(("over", ("told", 1), good)))


if __name__ == "__main__":
    unittest.main()
