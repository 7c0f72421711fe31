"""Sharp bounds: points E2 to E5, and papers, bounds and between of causaleffects.bounds."""

import random
import unittest
from fractions import Fraction
from itertools import product

from causaleffects.bounds import between, bounds, model_of, papers, types
from causaleffects.checker import accepts
from causaleffects.errors import (InvalidAsked, InvalidGraph, InvalidTables, NoModel, NotBetween, NotIdentified, TooMany)
from causaleffects.identify import is_identified
from causaleffects.models import effect, table
from helpers import BOW, EIGHT, LONE, PLAIN, WRONG, bends, pair, refusal, settings, some_model
from responses import (are_right_weights, chance_by_weights, costs_by_look, drawn_programs, effect_at, shares_givens, shares_worth)

WHOLE = ((0, 1),)
BOTH = (((1, 4), (1, 4), (1, 8), (3, 8)),)
ONE_ONE = ((0,), (1,), (1, 1))
TRIAL = (("z", "x", "y"), ((0, 1), (1, 2)), ((1, 2),))


def drawn_shares(source, count):
    """So many Fractions above 0 that add up to 1."""
    shares = [source.choice((1, 1, 1, 2, 3, 8, 20)) for _ in range(count)]
    return [Fraction(one, sum(shares)) for one in shares]


def trial_tables(seen, by_hand):
    """Told lots of TRIAL and their TABLES, z being seen with chances, or set by hand and told apart."""
    rows = tuple(pair(seen[setting]) for setting in settings((2, 2, 2)))
    if by_hand:
        return ((0,), (1, 2)), (((1, 3),) * 4 + ((2, 3),) * 4, rows)
    third = tuple(pair(seen[setting] * Fraction(1 + setting[0], 3)) for setting in settings((2, 2, 2)))
    return ((0, 1, 2),), (third,)


class Ends(unittest.TestCase):
    def check(self, graph, sizes, told, tables, question):
        """Both papers, looked through; their chances."""
        ends = papers(graph, sizes, told, tables, question)
        costs = costs_by_look(graph, sizes, told, tables, question)
        self.assertEqual(bounds(graph, sizes, told, tables, question), (ends[0][0], ends[1][0]))
        self.assertEqual((type(ends), len(ends), len(ends[0]), len(ends[1])), (tuple, 2, 3, 3))
        for (chance, weights, shares), sign in zip(ends, (1, -1)):
            self.assertTrue(are_right_weights(graph, sizes, told, tables, weights))
            self.assertEqual(pair(chance_by_weights(costs, weights)), chance)
            self.assertEqual(pair(shares_worth(graph, sizes, told, tables, shares)), chance)
            for kind, given in shares_givens(graph, sizes, told, tables, shares).items():
                self.assertLessEqual(sign * given, sign * costs[kind])
            for one in (shares[0],) + tuple(one for row in shares[1] for one in row):
                self.assertEqual(pair(Fraction(*one)), one)
        return Fraction(*ends[0][0]), Fraction(*ends[1][0])

    def test_by_hand(self):
        self.assertEqual(bounds(BOW, (2, 2), WHOLE, BOTH, ONE_ONE), ((3, 8), (7, 8)))
        self.assertEqual(bounds(question=((0,), (1,), (0, 1)), tables=BOTH, told=WHOLE, sizes=(2, 2), graph=BOW),
                         ((1, 4), (3, 4)))
        self.assertEqual([one[0] for one in papers(BOW, (2, 2), WHOLE, BOTH, ONE_ONE)], [(3, 8), (7, 8)])
        # Nothing is told of y: whatever is asked of it may be anything, x is told.
        self.assertEqual(bounds(BOW, (2, 2), ((0,),), (((1, 3), (1, 3), (2, 3), (2, 3)),), ONE_ONE), ((0, 1), (1, 1)))
        self.assertEqual(bounds(BOW, (2, 2), ((0,),), (((1, 3), (1, 3), (2, 3), (2, 3)),), ((), (0,), (1,))), ((2, 3), (2, 3)))
        self.assertEqual(bounds(BOW, (2, 2), ((0,),), (((1, 3), (1, 3), (2, 3), (2, 3)),), ((), (0, 1), (1, 0))),
                         ((0, 1), (2, 3)))

    def test_drawn_models(self):
        wide = identified = 0
        for model, graph, sizes, told, tables, question in drawn_programs(71, 150):
            least, greatest = self.check(graph, sizes, told, tables, question)
            own = effect_at(model, question)
            self.assertLessEqual(least, own)
            self.assertLessEqual(own, greatest)
            wide += least < greatest
            if is_identified(graph, told, question[0], question[1]):
                identified += 1
                self.assertEqual((least, greatest), (own, own))
        self.assertGreater(wide, 25)
        self.assertGreater(identified, 60)

    def test_effects_within_the_hidden_lot(self):
        # What is asked is the effect of its first variable on its last one, which what is seen never tells.
        source = random.Random(72)
        wide = 0
        for model, graph, sizes, told, tables, _ in drawn_programs(73, 120):
            first, last = graph[2][0][0], graph[2][0][-1]
            question = ((first,), (last,), (source.randrange(sizes[first]), source.randrange(sizes[last])))
            least, greatest = self.check(graph, sizes, told, tables, question)
            own = effect_at(model, question)
            self.assertLessEqual(least, own)
            self.assertLessEqual(own, greatest)
            wide += least < own < greatest
        self.assertGreater(wide, 30)

    def test_a_hidden_common_cause(self):
        source = random.Random(74)
        for first, second in ((2, 2), (2, 3), (3, 2), (2, 4), (3, 3), (4, 2)):
            for _ in range(6):
                chances = dict(zip(product(range(first), range(second)), drawn_shares(source, first * second)))
                rows = (tuple(pair(chances[setting]) for setting in settings((first, second))),)
                for x, y in chances:
                    least = chances[x, y]
                    greatest = least + sum(chance for (one, _), chance in chances.items() if one != x)
                    self.assertEqual(bounds(BOW, (first, second), WHOLE, rows, ((0,), (1,), (x, y))),
                                     (pair(least), pair(greatest)))

    def test_an_instrument_with_two_values(self):
        # The formulas of Balke and Pearl; where a sum of greatest chances is above 1 no model tells the table (Bonet).
        source = random.Random(75)
        met = none = 0
        for at in range(160):
            seen = {}
            for z in (0, 1):
                for (x, y), share in zip(product((0, 1), (0, 1)), drawn_shares(source, 4)):
                    seen[z, x, y] = share
            told, tables = trial_tables(seen, at % 2)
            if any(sum(max(seen[z, x, y] for z in (0, 1)) for y in (0, 1)) > 1 for x in (0, 1)):
                none += 1
                for question in (((1,), (2,), (0, 1)), ((), (2,), (0,))):
                    refusal(NoModel, bounds, TRIAL, (2, 2, 2), told, tables, question)
                continue
            met += 1
            p = {(y, x, z): seen[z, x, y] for z, x, y in seen}
            for x in (0, 1):
                # What is told of x set to 0 is told of x set to 1 with its values the other way round.
                q = {(y, one, z): p[y, one if x == 0 else 1 - one, z] for y, one, z in p}
                least = max(q[1, 0, 1], q[1, 0, 0], q[1, 0, 0] + q[1, 1, 0] - q[0, 0, 1] - q[1, 1, 1],
                            q[0, 1, 0] + q[1, 0, 0] - q[0, 0, 1] - q[0, 1, 1])
                greatest = min(1 - q[0, 0, 1], 1 - q[0, 0, 0], q[0, 1, 0] + q[1, 0, 0] + q[1, 0, 1] + q[1, 1, 1],
                               q[1, 0, 0] + q[1, 1, 0] + q[0, 1, 1] + q[1, 0, 1])
                self.assertEqual(bounds(TRIAL, (2, 2, 2), told, tables, ((1,), (2,), (x, 1))), (pair(least), pair(greatest)))
        self.assertGreater(met, 80)
        self.assertGreater(none, 30)

    def test_all_settings_asked_of_one_model(self):
        # The chances of all settings of Y add up to 1; y's least one is what is left by the greatest one of the other.
        model = some_model(TRIAL, (2, 2, 2), (4,), 8)
        tables = (table(model, (0, 1, 2)),)
        for x in (0, 1):
            zero, one = (bounds(TRIAL, (2, 2, 2), ((0, 1, 2),), tables, ((1,), (2,), (x, y))) for y in (0, 1))
            self.assertEqual(Fraction(*zero[0]) + Fraction(*one[1]), 1)
            self.assertEqual(Fraction(*zero[1]) + Fraction(*one[0]), 1)

    def test_no_hidden_variable_is_told_or_needed(self):
        graph = (("a", "b", "x", "y"), ((0, 1), (1, 2)), ((2, 3),))
        model = some_model(graph, (2, 2, 2, 2), (3,), 9)
        tables = (table(model, (0, 1)),)
        told = ((0, 1),)
        own = effect(model, (0,), (1,))
        for at, (a, b) in enumerate(product((0, 1), (0, 1))):
            question = ((0,), (1,), (a, b))
            self.assertEqual(self.check(graph, (2,) * 4, told, tables, question), (Fraction(*own[at]),) * 2)
            self.assertEqual(papers(graph, (2,) * 4, told, tables, question)[0][2][1], ())
        self.assertEqual(self.check(graph, (2,) * 4, told, tables, ((0,), (3,), (0, 1))), (0, 1))
        # x is asked through b, which is told; the type answers for each of its values.
        self.assertEqual(self.check(graph, (2,) * 4, told, tables, ((0,), (2,), (0, 1))), (0, 1))

    def test_parts_with_parents_between_their_variables(self):
        graph = (("a", "b", "c", "d", "e"), ((1, 3), (2, 3), (2, 4), (3, 4)), ((1, 3),))
        model = some_model(graph, (2,) * 5, (4,), 10)
        told = ((0, 1, 2, 3), (1, 2, 4), (3,))
        tables = tuple(table(model, lot) for lot in told)
        for question in (((1,), (4,), (0, 1)), ((0, 1), (3,), (1, 0, 1)), ((), (1, 4), (0, 0)), ((2,), (0, 3), (1, 1, 1))):
            least, greatest = self.check(graph, (2,) * 5, told, tables, question)
            self.assertTrue(least <= effect_at(model, question) <= greatest)


class NoModels(unittest.TestCase):
    def refuses(self, graph, sizes, told, tables, question):
        for call, more in ((bounds, ()), (papers, ()), (between, ((1, 2),)), (between, (None,))):
            refusal(NoModel, call, graph, sizes, told, tables, question, *more)
        weights = tuple((kind, (1, len(types(graph, sizes)))) for kind in types(graph, sizes))
        shares = ((1, 2), tuple(() for _ in told))
        for word, paper in (("least", (weights, shares)), ("greatest", (weights, shares)), ("met", weights)):
            for chance in ((0, 1), (1, 2), (1, 1)):
                self.assertIs(accepts((word, graph, sizes, told, tables, question, chance), paper), False)

    def test_a_table_that_is_not_1_everywhere(self):
        for rows in (((1, 4), (1, 4), (1, 8), (1, 4)), ((1, 1),) * 4, ((1, 4), (1, 4), (1, 4), (1, 8))):
            self.refuses(BOW, (2, 2), WHOLE, (rows,), ONE_ONE)
        # Summed over x alone it is 1 for one value of y, and not for the other.
        self.refuses(BOW, (2, 2), ((0,),), (((1, 2), (1, 2), (1, 2), (1, 4)),), ONE_ONE)
        graph = (("a", "x", "y"), (), ((1, 2),))
        self.refuses(graph, (2, 2, 2), ((0,),), (((1, 2),) * 7 + ((1, 3),),), ((), (1,), (0,)))

    def test_a_variable_that_hangs_on_one_that_is_no_parent(self):
        # a hangs on x, which is told beside it.
        graph = (("a", "x", "y"), (), ((1, 2),))
        self.refuses(graph, (2, 2, 2), ((0,),), (((1, 3), (1, 3), (1, 4), (1, 4), (2, 3), (2, 3), (3, 4), (3, 4)),), ((), (1,), (0,)))
        # x, no child of a, hangs on it.
        half = ((1, 6), (1, 3), (1, 6), (1, 3), (1, 4), (1, 4), (1, 4), (1, 4))
        self.refuses(graph, (2, 2, 2), ((0,), (1, 2)), (((1, 2),) * 8, half), ((), (1,), (0,)))
        # In what is seen of both y hangs on a as well as on x.
        chain = (("a", "x", "y"), ((0, 1),), ((1, 2),))
        rows = tuple(pair(Fraction(1, 4) * Fraction(1 + (setting[0] == setting[2]), 3)) for setting in settings((2, 2, 2)))
        self.refuses(chain, (2, 2, 2), ((0, 1, 2),), (rows,), ((1,), (2,), (0, 1)))

    def test_told_lots_that_disagree(self):
        graph = (("a", "x", "y"), ((0, 1),), ((1, 2),))
        model = some_model(graph, (2, 2, 2), (2,), 11)
        other = some_model(graph, (2, 2, 2), (2,), 12)
        question = ((), (1,), (0,))
        # About a, out of the hidden lot.
        told = ((0, 1), (0, 2))
        self.refuses(graph, (2, 2, 2), told, (table(model, told[0]), table(other, told[1])), question)
        # About what both have in the hidden lot: of the same part, and of one within another one.
        for told in (((0, 1), (1,)), ((0, 1, 2), (1, 2)), ((0, 2), (1, 2)), ((1, 2), (0, 2))):
            mixed = some_model(graph, (2, 2, 2), (2,), 12)
            mixed = mixed[:3] + (model[3][:1] + other[3][1:],)
            tables = (table(model, told[0]), table(mixed, told[1]))
            self.assertNotEqual(tables, tuple(table(model, lot) for lot in told))
            self.refuses(graph, (2, 2, 2), told, tables, question)

    def test_one_chance_otherwise(self):
        for model, graph, sizes, told, tables, question in drawn_programs(76, 40, most_types=64):
            rows = tables[-1]
            one = Fraction(*rows[0])
            changed = tables[:-1] + ((pair(one / 2),) + rows[1:],)
            refusal(NoModel, bounds, graph, sizes, told, changed, question)

    def test_pairs_that_no_three_have(self):
        # Of three any two are unlike more often than not: no three values are unlike two by two.
        graph = (("a", "b", "c"), (), ((0, 1, 2),))
        told = ((0, 1), (0, 2), (1, 2))

        def tables(unlike):
            return tuple(tuple(pair(Fraction(1, 2) * (unlike if setting[one] != setting[other] else 1 - unlike))
                               for setting in settings((2, 2, 2))) for one, other in told)
        self.refuses(graph, (2, 2, 2), told, tables(Fraction(3, 4)), ((), (0,), (0,)))
        refusal(NoModel, bounds, graph, (2, 2, 2), told, tables(Fraction(67, 100)), ((), (0,), (0,)))
        self.assertEqual(bounds(graph, (2, 2, 2), told, tables(Fraction(2, 3)), ((), (0, 1, 2), (0, 0, 0))), ((0, 1), (0, 1)))
        self.assertEqual(bounds(graph, (2, 2, 2), told, tables(Fraction(2, 3)), ((), (0, 1, 2), (0, 0, 1))), ((1, 6), (1, 6)))


class Between(unittest.TestCase):
    def check(self, graph, sizes, told, tables, question, value, costs):
        weights = between(graph, sizes, told, tables, question, value)
        self.assertTrue(are_right_weights(graph, sizes, told, tables, weights))
        self.assertEqual(pair(chance_by_weights(costs, weights)), value)
        return weights

    def test_by_hand(self):
        costs = costs_by_look(BOW, (2, 2), WHOLE, BOTH, ONE_ONE)
        for above in range(24, 57):
            self.check(BOW, (2, 2), WHOLE, BOTH, ONE_ONE, pair(Fraction(above, 64)), costs)
        found = between(value=(1, 2), question=ONE_ONE, tables=BOTH, told=WHOLE, sizes=(2, 2), graph=BOW)
        self.assertEqual(effect(model_of(BOW, (2, 2), WHOLE, BOTH, found), (0,), (1,))[3], (1, 2))

    def test_drawn_models(self):
        for model, graph, sizes, told, tables, question in drawn_programs(77, 60):
            least, greatest = bounds(graph, sizes, told, tables, question)
            costs = costs_by_look(graph, sizes, told, tables, question)
            low, high = Fraction(*least), Fraction(*greatest)
            values = {low + (high - low) * Fraction(at, 7) for at in range(8)} | {effect_at(model, question)}
            for value in values:
                self.check(graph, sizes, told, tables, question, pair(value), costs)
            for beyond in (low - Fraction(1, 10 ** 9), high + Fraction(1, 10 ** 9), low - 1, high + 1):
                given = pair(beyond)
                self.assertIs(refusal(NotBetween, between, graph, sizes, told, tables, question, given).given, given)

    def test_what_is_no_ratio(self):
        wrong = ((2, 4), (1, 0), (-1, -2), (0, 2), (1, 2, 3), ((1, 2),), "1/2", (5, 16), (15, 16), (-1, 2), (3, 2))
        for value in wrong + tuple(bends((1, 2))):
            self.assertIs(refusal(NotBetween, between, BOW, (2, 2), WHOLE, BOTH, ONE_ONE, value).given, value)


class Wrong(unittest.TestCase):
    CALLS = ((papers, ()), (bounds, ()), (between, ((1, 2),)), (between, (None,)))

    def test_questions(self):
        wrong = WRONG + tuple(bends(ONE_ONE)) + (
            ((0,), (0,), (1, 1)), ((0,), (), (1,)), ((), (), ()), ((0,), (1,), (1, 2)), ((0,), (1,), (1, -1)), ((0,), (1,), (1,)),
            ((0,), (1,), (1, 1, 1)), ((0,), (2,), (1, 1)), ((1, 0), (1,), (1, 1)), ((0,), (1,)), ((0,), (1,), [1, 1]),
            ((0,), (1,), 3), ((0,), (1,), (True, 1)), ((0, 1), (1,), (0, 0, 0)))
        for question in wrong:
            for call, more in self.CALLS:
                self.assertIs(refusal(InvalidAsked, call, BOW, (2, 2), WHOLE, BOTH, question, *more).given, question)

    def test_graphs_with_other_than_one_hidden_lot(self):
        two = (("x", "y", "z"), (), ((0, 1), (1, 2)))
        for graph in (PLAIN, LONE, two) + WRONG:
            for call, more in self.CALLS + ((model_of, ()),):
                rest = (None,) * (3 if call is model_of else 4)
                given = (graph,) + rest + (more if call is not model_of else (None,))
                self.assertIs(refusal(InvalidGraph, call, *given).given, graph)

    def test_tables_with_a_chance_0(self):
        zero = ((1, 2), (0, 1), (1, 4), (1, 4))
        flat = ((1, 2),) * 4
        for call, more in self.CALLS[:3] + ((model_of, None),):
            def told_index(told, tables):
                if call is model_of:
                    return refusal(InvalidTables, call, BOW, (2, 2), told, tables, None).index
                return refusal(InvalidTables, call, BOW, (2, 2), told, tables, None, *more).index
            self.assertEqual(told_index(WHOLE, (zero,)), 0)
            self.assertEqual(told_index(((0, 1), (0,)), (BOTH[0], zero)), 1)
            self.assertEqual(told_index(((0, 1), (0,), (1,)), (flat, zero, zero)), 1)
            # What is no TABLE at all comes ahead of a chance 0, wherever it stands.
            self.assertEqual(told_index(((0, 1), (0,), (1,)), (zero, flat, flat[1:])), 2)
            self.assertIsNone(told_index(WHOLE, (zero, zero)))
            self.assertEqual(told_index(((0, 1), (0,), (1,)), (zero, flat, ((0, 2),) * 4)), 2)

    def test_variables_out_of_the_lot_that_are_told_nowhere(self):
        graph = (("a", "x", "b", "y", "c"), ((0, 1), (1, 2)), ((1, 3),))
        flat = ((1, 2),) * 32
        question = ((1,), (3,), (0, 0))
        for call, more in self.CALLS:
            for told, lot in ((((1, 3),), (0,)), (((0, 1),), (2,)), (((0, 2),), (4,)), (((0, 1, 3), (3, 4)), (2,)), (((2, 4),), (0,))):
                found = refusal(NotIdentified, call, graph, (2,) * 5, told, (flat,) * len(told), question, *more)
                self.assertEqual(found.lot, lot)
            # Ahead of too many types, behind what is no question.
            large = (EIGHT[:3], ((1, 2),), ((1, 2),))
            found = refusal(NotIdentified, call, large, (2, 4, 4), ((1,),), (((1, 4),) * 32,), ((), (0,), (0,)), *more)
            self.assertEqual(found.lot, (0,))
            refusal(InvalidAsked, call, graph, (2,) * 5, ((1, 3),), (flat,), None, *more)

    def test_too_many_types(self):
        for call, more in self.CALLS:
            for sizes, count in (((3, 4), 192), ((4, 3), 324), ((4, 4), 1024)):
                flat = ((1, 2),) * (sizes[0] * sizes[1])
                if count > 256:
                    found = refusal(TooMany, call, BOW, sizes, ((0,),), (flat,), ((), (0,), (0,)), *more)
                    self.assertEqual(found.given, count)
                else:
                    refusal(NoModel, call, BOW, sizes, ((0,),), (flat,), ((), (0,), (0,)), *more)


class Greatest(unittest.TestCase):
    """The greatest sizes."""

    def check(self, graph, sizes, states, told, question, kinds=None):
        model = some_model(graph, sizes, (states,), 17)
        tables = tuple(table(model, lot) for lot in told)
        if kinds is not None:
            self.assertEqual(len(types(graph, sizes)), kinds)
        ends = papers(graph, sizes, told, tables, question)
        things = (graph, sizes, told, tables, question)
        own = effect(model, question[0], question[1])
        rows = settings([sizes[one] for one in question[0] + question[1]])
        value = own[rows.index(question[2])]
        self.assertTrue(Fraction(*ends[0][0]) <= Fraction(*value) <= Fraction(*ends[1][0]))
        for word, end in zip(("least", "greatest"), ends):
            self.assertTrue(accepts((word,) + things + end[:1], end[1:]))
        self.assertTrue(accepts(("met",) + things + (value,), between(*things, value)))
        return ends

    def test_eight_roots(self):
        graph = (EIGHT, (), (tuple(range(8)),))
        question = ((), tuple(range(8)), (0,) * 8)
        ends = self.check(graph, (2,) * 8, 5, (tuple(range(8)),), question, 256)
        self.assertEqual(ends[0][0], ends[1][0])
        for told in (((0, 1, 2), (2, 3, 4), (4, 5, 6), (5, 6, 7), (0, 6, 7), (1, 4, 7)),
                     ((0, 1, 2, 3), (2, 3, 4, 5), (4, 5, 6, 7), (0, 2, 5, 7), (0, 1, 6, 7), (1, 3, 4, 7)),
                     tuple(tuple(one for one in range(8) if one not in (at, at + 1)) for at in range(6))):
            ends = self.check(graph, (2,) * 8, 5, told, question, 256)
            self.assertNotEqual(ends[0][0], ends[1][0])

    def test_sizes_up_to_4(self):
        graph = (EIGHT[:4], (), ((0, 1, 2, 3),))
        told = ((0, 1), (1, 2), (2, 3), (0, 3), (0, 2), (1, 3))
        self.check(graph, (4,) * 4, 5, told, ((), (0, 1, 2, 3), (0, 1, 2, 3)), 256)
        for sizes in ((2, 4, 2), (4, 2, 4)):
            self.check(TRIAL, sizes, 6, ((0, 1, 2),), ((1,), (2,), (0, 1)), 256)
            self.check(TRIAL, sizes, 6, ((0, 1), (0, 2), (1, 2)), ((1,), (2,), (1, 1)), 256)

    def test_six_and_seven_variables_with_the_lot_at_neighbours(self):
        six = (EIGHT[:6], ((0, 2), (1, 2), (2, 3), (3, 4), (4, 5)), ((2, 3),))
        self.check(six, (2,) * 6, 6, (tuple(range(6)),), ((2,), (5,), (1, 0)), 64)
        self.check(six, (2,) * 6, 6, ((0, 1, 2), (3, 4, 5), (2, 3)), ((2,), (5,), (1, 0)), 64)
        seven = (EIGHT[:7], ((0, 3), (1, 3), (1, 4), (3, 4), (4, 5), (5, 6)), ((3, 4),))
        self.check(seven, (2,) * 7, 6, (tuple(range(7)),), ((3,), (6,), (0, 1)), 256)
        self.check(seven, (2,) * 7, 6, (tuple(range(7)), (1, 4, 5), (3, 4)), ((2, 3), (5, 6), (0, 1, 1, 0)), 256)

    def test_settings_up_to_1024(self):
        graph = (EIGHT[:5], ((0, 2), (1, 2), (2, 3), (3, 4)), ((0, 1),))
        self.check(graph, (4,) * 5, 6, ((0, 1, 2), (0, 1, 3, 4)), ((2,), (1, 3), (3, 0, 3)), 16)
        self.check(graph, (4,) * 5, 6, ((0, 2, 3), (1, 4)), ((3,), (0, 1, 4), (3, 0, 3, 1)), 16)
        graph = (EIGHT[:5], ((0, 2), (2, 3), (3, 4)), ((1, 2),))
        self.check(graph, (4, 4, 2, 4, 4), 2, ((0, 1, 2), (0, 1, 3, 4)), ((1,), (3,), (3, 3)), 64)


if __name__ == "__main__":
    unittest.main()
