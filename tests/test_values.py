"""Values of FORMULAs, and told effects: points A2, A4, C6, and the interface of causaleffects.values."""

import random
import unittest
from fractions import Fraction
from itertools import product

from causaleffects.errors import (InvalidAsked, InvalidFormula, InvalidGraph, InvalidLot, InvalidSizes, InvalidTables,
                                  InvalidTold, NotIdentified)
from causaleffects.models import effect, table
from causaleffects.values import told_effect, value_of
from helpers import (BOW, DOOR, EIGHT, LONE, PAIRS, PLAIN, SEEN, WRONG, bends, nested, pair, refusal, settings,
                     some_model)
from looks import count_parts, depth_of, drawn_model, lots_of

LEAF = ("told", 0)
DOORS = ((1, 4), (1, 12), (1, 12), (1, 12), (1, 12), (1, 12), (1, 12), (1, 4))
FAIR = ((1, 2), (1, 2))
NO_LOTS = WRONG + ((1, 0), (3,), [0], (True,), 0, ((0,),))


def spread_out(sizes, deeds, asked, told):
    """What an effect is at each setting of all variables."""
    rows = dict(zip(product(*(range(sizes[one]) for one in deeds + asked)), told))
    return tuple(rows[tuple(setting[one] for one in deeds + asked)] for setting in settings(sizes))


def sums_out(sizes, tables, formula):
    """The value of a FORMULA, as C6 says it: Fractions by settings, None for none."""
    word = formula[0]
    if word == "told":
        return {setting: Fraction(*one) for setting, one in zip(settings(sizes), tables[formula[1]])}
    if word == "sum":
        inner = sums_out(sizes, tables, formula[2])
        if inner is None:
            return None
        return {setting: sum(worth for other, worth in inner.items() if all(
            one == two for at, (one, two) in enumerate(zip(setting, other)) if at not in formula[1])) for setting in inner}
    parts = [sums_out(sizes, tables, part) for part in formula[1:]]
    if None in parts:
        return None
    if word == "over":
        if 0 in parts[1].values():
            return None
        return {setting: parts[0][setting] / parts[1][setting] for setting in parts[0]}
    found = {}
    for setting in parts[0]:
        found[setting] = Fraction(1)
        for part in parts:
            found[setting] *= part[setting]
    return found


def by_hand(sizes, tables, formula):
    """The same as value_of should tell it."""
    found = sums_out(sizes, tables, formula)
    return None if found is None else tuple(pair(found[setting]) for setting in settings(sizes))


def drawn_formula(source, lots, count, depth):
    """A FORMULA of up to so many levels over so many told lots."""
    kind = source.choice(("told", "sum", "over", "times"))
    if depth == 1 or kind == "told":
        return ("told", source.randrange(count))
    if kind == "sum":
        return ("sum", source.choice(lots), drawn_formula(source, lots, count, depth - 1))
    many = 2 if kind == "over" else source.choice((2, 2, 2, 3, 8))
    return (kind,) + tuple(drawn_formula(source, lots, count, depth - 1) for _ in range(many))


def drawn_table(source, sizes, least=1):
    """A TABLE of any chances, from such as are 0 on where least is 0."""
    chances = []
    for _ in settings(sizes):
        below = source.randint(2, 9)
        chances.append(pair(Fraction(source.randint(least, below), below)))
    return tuple(chances)


class Values(unittest.TestCase):
    def value(self, formula, *tables, graph=PLAIN, sizes=(2, 2)):
        told = ((0, 1), (0,), (1,))[:len(tables)]
        found = value_of(graph, sizes, told, tables, formula)
        self.assertEqual(found, by_hand(sizes, tables, formula))
        return found

    def test_by_hand(self):
        one = ((1, 6), (1, 3), (0, 1), (1, 2))
        two = ((1, 2), (1, 4), (1, 3), (1, 1))
        self.assertEqual(self.value(LEAF, one), one)
        self.assertEqual(self.value(("told", 1), one, two), two)
        self.assertEqual(self.value(("sum", (), LEAF), one), one)
        self.assertEqual(self.value(("sum", (0,), LEAF), one), ((1, 6), (5, 6), (1, 6), (5, 6)))
        self.assertEqual(self.value(("sum", (1,), LEAF), one), ((1, 2), (1, 2), (1, 2), (1, 2)))
        self.assertEqual(self.value(("sum", (0, 1), LEAF), two), ((25, 12),) * 4)
        self.assertEqual(self.value(("times", LEAF, ("told", 1)), one, two), ((1, 12), (1, 12), (0, 1), (1, 2)))
        self.assertEqual(self.value(("over", LEAF, ("told", 1)), one, two), ((1, 3), (4, 3), (0, 1), (1, 2)))
        self.assertEqual(self.value(("times", two[:0] or LEAF, LEAF, LEAF), two), ((1, 8), (1, 64), (1, 27), (1, 1)))
        self.assertIsNone(self.value(("over", ("told", 1), LEAF), one, two))

    def test_a_sum_of_sums_counts_twice(self):
        table_of_two = ((1, 2), (1, 4), (1, 3), (1, 1))
        self.assertEqual(self.value(("sum", (0,), ("sum", (0,), LEAF)), table_of_two), ((5, 3), (5, 2), (5, 3), (5, 2)))
        self.assertEqual(self.value(("sum", (0,), ("sum", (1,), LEAF)), table_of_two),
                         self.value(("sum", (0, 1), LEAF), table_of_two))

    def test_the_last_variable_runs_fastest(self):
        told = tuple((1, below) for below in range(2, 14))
        graph = (("a", "b", "c"), (), ())
        found = value_of(graph, (2, 3, 2), ((0, 1, 2),), (told,), ("sum", (1,), LEAF))
        self.assertEqual(found[0], pair(Fraction(1, 2) + Fraction(1, 4) + Fraction(1, 6)))
        self.assertEqual(found[1], pair(Fraction(1, 3) + Fraction(1, 5) + Fraction(1, 7)))
        self.assertEqual(found[6], pair(Fraction(1, 8) + Fraction(1, 10) + Fraction(1, 12)))
        self.assertEqual(found[0::2], (found[0],) * 3 + (found[6],) * 3)

    def test_formulas_of_every_shape(self):
        source = random.Random(21)
        none = 0
        for _ in range(400):
            sizes = tuple(source.randint(2, 3) for _ in range(source.randint(1, 3)))
            graph = (EIGHT[:len(sizes)], (), ())
            lots = lots_of(len(sizes))
            told = tuple(source.sample(lots[1:], source.randint(1, min(3, len(lots) - 1))))
            tables = tuple(drawn_table(source, sizes, source.choice((0, 1, 1))) for _ in told)
            formula = drawn_formula(source, lots, len(told), source.randint(1, 6))
            found = value_of(graph, sizes, told, tables, formula)
            self.assertEqual(found, by_hand(sizes, tables, formula))
            none += found is None
        self.assertGreater(none, 20)
        self.assertLess(none, 200)

    def test_a_divisor_0_somewhere(self):
        zero, fine = ((0, 1), (1, 2), (1, 3), (1, 1)), ((1, 2),) * 4
        over = ("over", ("told", 1), LEAF)
        for formula in (over, ("sum", (), over), ("sum", (0, 1), over), ("times", over, ("told", 1)),
                        ("times", ("told", 1), over), ("times",) + (("told", 1),) * 7 + (over,), ("over", over, ("told", 1)),
                        ("over", ("told", 1), over), ("over", LEAF, LEAF), ("over", over, over),
                        ("times", LEAF, ("sum", (1,), ("over", ("told", 1), ("times", ("told", 1), LEAF))))):
            self.assertIsNone(self.value(formula, zero, fine), formula)
            self.assertIsNotNone(self.value(formula, fine, fine), formula)
        # 0 above, or what is not 0 any more once it is summed, does no harm.
        for formula in (("over", LEAF, ("told", 1)), ("over", ("told", 1), ("sum", (0,), LEAF)),
                        ("times", LEAF, ("over", LEAF, ("sum", (1,), LEAF)))):
            self.assertIsNotNone(self.value(formula, zero, fine), formula)
        self.assertIsNone(self.value(("over", ("told", 1), ("sum", (0,), LEAF)), ((0, 1), (1, 2), (0, 1), (1, 2)), fine))

    def test_0_at_the_last_setting_alone(self):
        sizes = (2,) * 8
        told = ((1, 2),) * 255 + ((0, 1),)
        graph = (EIGHT, (), ())
        whole = (tuple(range(8)),)
        self.assertIsNone(value_of(graph, sizes, whole, (told,), ("over", LEAF, LEAF)))
        self.assertEqual(value_of(graph, sizes, whole, (told[:-1] + ((1, 2),),), ("over", LEAF, LEAF)), ((1, 1),) * 256)

    def test_sixty_deep(self):
        two = ((1, 2), (1, 3))
        for kind in range(4):
            formula = LEAF
            for level in range(2, 61):
                turn = kind if kind < 3 else level % 3
                formula = (("sum", (0,) if level % 9 == 0 else (), formula), ("over", formula, LEAF),
                           ("times", LEAF, formula))[turn]
            self.assertEqual(depth_of(formula), 60)
            self.assertEqual(value_of(LONE, (2,), ((0,),), (two,), formula), by_hand((2,), (two,), formula))
            deeper = ("sum", (), formula)
            self.assertIs(refusal(InvalidFormula, value_of, LONE, (2,), ((0,),), (two,), deeper).given, deeper)

    def test_eight_factors(self):
        tables = tuple(tuple((1, below + step) for step in range(4)) for below in range(2, 5))
        formula = ("times",) + (LEAF, ("told", 1), ("told", 2), ("sum", (0,), LEAF)) * 2
        self.assertEqual(len(formula), 9)
        self.value(formula, *tables)
        for wrong in (formula + (LEAF,), formula[:2], ("times",), ("over", LEAF, formula + (LEAF,))):
            self.assertIs(refusal(InvalidFormula, value_of, PLAIN, (2, 2), ((0, 1),), tables[:1], wrong).given, wrong)

    def test_four_thousand_parts(self):
        def parts(count):
            if count < 3:
                return LEAF if count == 1 else ("sum", (0,), LEAF)
            factors = min(8, count - 1)
            share, rest = divmod(count - 1, factors)
            return ("times",) + tuple(parts(share + (at < rest)) for at in range(factors))

        two = ((1, 2), (1, 1))
        for count in (3999, 4000, 4001):
            formula = parts(count)
            self.assertEqual(count_parts(formula), count)
            if count > 4000:
                self.assertIs(refusal(InvalidFormula, value_of, LONE, (2,), ((0,),), (two,), formula).given, formula)
            else:
                self.assertEqual(value_of(LONE, (2,), ((0,),), (two,), formula), by_hand((2,), (two,), formula))

    def test_many_unlike_parts(self):
        source = random.Random(22)
        lots = lots_of(3)
        formula = ("told", 0)
        for step in range(55):
            formula = ("times", formula, ("over", ("told", step % 2), ("sum", lots[step % 8], ("told", step % 3))))
        tables = tuple(drawn_table(source, (2, 2, 2)) for _ in range(3))
        told = ((0, 1, 2), (0,), (1, 2))
        self.assertEqual(value_of(DOOR, (2, 2, 2), told, tables, formula), by_hand((2, 2, 2), tables, formula))

    def test_1024_settings(self):
        graph = (("a", "b", "c", "d", "e"), (), ())
        sizes = (4,) * 5
        told = tuple((1, 2 + at % 7) for at in range(1024))
        found = value_of(graph, sizes, ((0, 1, 2, 3, 4),), (told,), ("sum", (0, 1, 2, 3, 4), LEAF))
        self.assertEqual(found, (pair(sum(Fraction(*one) for one in told)),) * 1024)
        wide = (EIGHT, (), ())
        most = (4, 4, 2, 2, 2, 2, 2, 2)
        self.assertEqual(value_of(wide, most, ((0,),), (told,), LEAF), told)
        for more in ((4, 4, 4, 2, 2, 2, 2, 2), (3, 3, 3, 3, 2, 2, 2, 2), (4,) * 8):
            self.assertIs(refusal(InvalidSizes, value_of, wide, more, ((0,),), (told,), LEAF).given, more)

    def test_twice_the_same(self):
        formula = ("over", ("sum", (2,), LEAF), ("sum", (1, 2), LEAF))
        for _ in range(2):
            self.assertEqual(value_of(tables=(DOORS,), formula=formula, told=SEEN, sizes=(2, 2, 2), graph=DOOR), (
                (2, 3), (2, 3), (1, 3), (1, 3), (1, 3), (1, 3), (2, 3), (2, 3)))


class ToldEffects(unittest.TestCase):
    def test_by_hand(self):
        told = told_effect(DOOR, (2, 2, 2), SEEN, (DOORS,), (0,), (2,))
        self.assertEqual(told, ((13, 24), (11, 24), (11, 24), (13, 24)))
        self.assertEqual(told_effect(LONE, (2,), ((0,),), (FAIR,), (), (0,)), FAIR)
        self.assertEqual(told_effect(asked=(1,), deeds=(0,), tables=(DOORS,), told=SEEN, sizes=(2, 2, 2), graph=DOOR),
                         ((2, 3), (1, 3), (1, 3), (2, 3)))
        # The experiment on x tells what y comes to, though y is no longer what is seen.
        chances = ((1, 3), (2, 3), (1, 5), (4, 5))
        self.assertEqual(told_effect(BOW, (2, 2), ((1,),), (chances,), (0,), (1,)), chances)

    def test_the_order_of_the_settings(self):
        graph = (("a", "b", "c"), ((0, 2), (1, 2)), ())
        model = some_model(graph, (2, 3, 4), (), 5)
        tables = (table(model, (0, 1, 2)),)
        for deeds in lots_of(3):
            for asked in lots_of(3)[1:]:
                if not set(deeds) & set(asked):
                    self.assertEqual(told_effect(graph, model[1], ((0, 1, 2),), tables, deeds, asked),
                                     effect(model, deeds, asked))

    def test_the_first_lot_that_is_not_told(self):
        both = (table(drawn_model(BOW, 1), (0, 1)),)
        self.assertEqual(refusal(NotIdentified, told_effect, BOW, (2, 2), ((0, 1),), both, (0,), (1,)).lot, (1,))
        graph = (("a", "b", "c", "d"), ((0, 1), (2, 3)), ((0, 1), (2, 3)))
        model = drawn_model(graph, 2)
        tables = (table(model, (0, 1, 2, 3)), table(model, (1,)))
        told = ((0, 1, 2, 3), (1,))
        self.assertEqual(refusal(NotIdentified, told_effect, graph, model[1], told, tables, (0, 2), (1, 3)).lot, (3,))
        self.assertEqual(told_effect(graph, model[1], told, tables, (0, 2), (1,)), effect(model, (0, 2), (1,)))


class Refused(unittest.TestCase):
    def calls(self, graph=PLAIN, sizes=(2, 2), told=((0, 1),), tables=(FAIR * 2,)):
        """Calls of both functions with the same beginnings, whatever stands behind."""
        for rest in ((LEAF,), (None,), (nested(300),)):
            yield value_of, (graph, sizes, told, tables) + rest, "graph sizes told tables formula".split()
        for rest in (((0,), (1,)), ((5,), ()), (None, None)):
            yield told_effect, (graph, sizes, told, tables) + rest, "graph sizes told tables deeds asked".split()

    def refused(self, error, **given):
        """The errors of both functions, by position and by name."""
        for call, told, names in self.calls(**given):
            yield refusal(error, call, *told)
            yield refusal(error, call, **dict(reversed(list(zip(names, told)))))

    def test_graphs(self):
        for graph in WRONG + (list(PLAIN), PLAIN[:2], (EIGHT + ("i",), (), ()), (EIGHT, (), PAIRS + ((6, 7, 8),))):
            for found in self.refused(InvalidGraph, graph=graph, sizes=None):
                self.assertIs(found.given, graph)

    def test_sizes(self):
        wrong = WRONG + ((2,), (2, 2, 2), (1, 2), (2, 5), (2, 0), (2, -2), [2, 2], (2, True), ("2", 2), 4, ((2, 2),), (2, None))
        for sizes in wrong + tuple(bends((2, 3))):
            for found in self.refused(InvalidSizes, sizes=sizes, told=(), tables=None):
                self.assertIs(found.given, sizes)

    def test_told(self):
        for told, index in (((), None), (None, None), ([(0, 1)], None), (((0,),) * 7, None), (((),), 0), (((0,), (0,)), 1),
                            (((2,),), 0), ((None,), 0), (((0,), nested(300)), 1)):
            for found in self.refused(InvalidTold, told=told, tables=None):
                self.assertEqual(found.index, index)

    def test_tables_that_are_wrong_as_a_whole(self):
        row = FAIR * 2
        for tables in WRONG + ((), (row, row), [row], row, {0: row}, "table", (row,) * 3):
            if type(tables) is tuple and len(tables) == 1:
                continue
            for found in self.refused(InvalidTables, tables=tables):
                self.assertIsNone(found.index)
        for found in self.refused(InvalidTables, told=((0, 1), (0,)), tables=(None,)):
            self.assertIsNone(found.index)

    def test_the_first_table_that_is_none(self):
        row = FAIR * 2
        wrong = WRONG + (row[:3], row + ((0, 1),), list(row), FAIR, (), (((2, 4),) + row[1:]), row[:3] + ((3, 2),),
                         row[:3] + ((-1, 2),), row[:3] + ((1, 0),), row[:3] + ([1, 2],), row[:3] + ((1, 2, 3),),
                         row[:3] + ((True, 2),), row[:3] + ((1, True),), row[:3] + ((1, -2),), row[:3] + (None,), row[:3] + (1,))
        # A chance may be as small as one likes, so a great divisor bends nothing.
        bent = [one for one in bends(((1, 2), (1, 3), (0, 1), (1, 1))) if "10000000000" not in repr(one)]
        self.assertGreater(len(bent), 300)
        for one in wrong + tuple(bent):
            for found in self.refused(InvalidTables, tables=(one,)):
                self.assertEqual(found.index, 0)
        told = ((0, 1), (0,), (1,))
        for found in self.refused(InvalidTables, told=told, tables=(row, row, None)):
            self.assertEqual(found.index, 2)
        for found in self.refused(InvalidTables, told=told, tables=(row, None, None)):
            self.assertEqual(found.index, 1)
        # Whether any model has them is nobody's matter here: each chance stands by itself.
        self.assertEqual(value_of(PLAIN, (2, 2), ((0, 1),), (((1, 1),) * 4,), LEAF), ((1, 1),) * 4)

    def test_formulas(self):
        row = FAIR * 2
        for formula in WRONG + (("told", 1), ("told", -1), ("told", False), ["told", 0], ("told",), ("sum", (2,), LEAF),
                                ("sum", LEAF), ("over", LEAF), ("times", LEAF), ("plus", LEAF, LEAF), "told 0"):
            self.assertIs(refusal(InvalidFormula, value_of, PLAIN, (2, 2), ((0, 1),), (row,), formula).given, formula)
            self.assertIs(refusal(InvalidFormula, value_of, formula=formula, tables=(row,), told=((0, 1),), sizes=(2, 2),
                                  graph=PLAIN).given, formula)
        for formula in bends(("over", ("sum", (0, 1), LEAF), ("times", LEAF, LEAF))):
            self.assertIs(refusal(InvalidFormula, value_of, PLAIN, (2, 2), ((0, 1),), (row,), formula).given, formula)

    def test_what_is_asked(self):
        row = FAIR * 2
        for lot in WRONG + ((1, 0), (3,), [0], (True,), 0):
            for deeds, asked in ((lot, (1,)), (lot, ()), ((0,), lot), ((), lot)):
                self.assertIs(refusal(InvalidLot, told_effect, BOW, (2, 2), ((0, 1),), (row,), deeds, asked).given, lot)
        for deeds in lots_of(2):
            for asked in lots_of(2):
                if not asked or set(asked) & set(deeds):
                    found = refusal(InvalidAsked, told_effect, BOW, (2, 2), ((0, 1),), (row,), deeds, asked)
                    self.assertIs(found.given, asked)


if __name__ == "__main__":
    unittest.main()
