"""Types and models by weights: points E1 and E2, and types and model_of of causaleffects.bounds."""

import random
import unittest
from fractions import Fraction

from causaleffects.bounds import between, model_of, types
from causaleffects.errors import InvalidGraph, InvalidSizes, InvalidWeights, NotIdentified, TooMany
from causaleffects.models import is_positive, table
from causaleffects.text import read_model, show_model
from helpers import BOW, DOOR, EIGHT, LONE, PAIRS, PLAIN, WRONG, bends, pair, q_at, refusal, settings, some_model
from looks import lots_of
from responses import (answers_so, drawn_bounded, drawn_cover, drawn_programs, effect_at, type_chances, type_count,
                       types_by_look, weights_of_model)

BOTH = (((1, 4), (1, 4), (1, 8), (3, 8)),)
WHOLE = ((0, 1),)
SOME = ((((0,), (0, 0)), (1, 8)), (((0,), (0, 1)), (1, 8)), (((0,), (1, 0)), (1, 4)), (((1,), (0, 0)), (1, 8)),
        (((1,), (0, 1)), (3, 8)))
ROOTS = (EIGHT, (), (tuple(range(8)),))


class Types(unittest.TestCase):
    def test_by_hand(self):
        self.assertEqual(types(BOW, (2, 2)), tuple(
            ((x,), (one, two)) for x in (0, 1) for one in (0, 1) for two in (0, 1)))
        self.assertEqual(types(sizes=(2, 3, 2), graph=DOOR)[:3], (((0,), (0, 0, 0)), ((0,), (0, 0, 1)), ((0,), (0, 1, 0))))
        self.assertEqual(len(types(DOOR, (2, 3, 2))), 16)
        # Parents that are in the lot and such as aren't: settings ascend as the parents stand.
        graph = (("a", "b", "c"), ((0, 2), (1, 2)), ((1, 2),))
        self.assertEqual(types(graph, (2, 2, 2))[1], ((0,), (0, 0, 0, 1)))

    def test_against_a_listing(self):
        source = random.Random(61)
        counts = set()
        for _ in range(120):
            graph, sizes = drawn_bounded(source, most=5)
            found = types(graph, sizes)
            self.assertIs(type(found), tuple)
            self.assertEqual(list(found), types_by_look(graph, sizes))
            self.assertEqual(list(found), sorted(set(found)))
            counts.add(len(found))
        for graph, sizes, count in (
                (ROOTS, (2,) * 8, 256), ((EIGHT[:4], (), ((0, 1, 2, 3),)), (4,) * 4, 256),
                ((EIGHT[:3], ((0, 1), (1, 2)), ((1, 2),)), (2, 4, 2), 256),
                ((EIGHT[:3], ((0, 1), (1, 2)), ((1, 2),)), (4, 2, 4), 256), (BOW, (2, 4), 32), (BOW, (4, 3), 324),
                ((EIGHT[:3], ((0, 1), (1, 2)), ((1, 2),)), (3, 3, 2), 216)):
            if count > 256:
                self.assertEqual(refusal(TooMany, types, graph, sizes).given, count)
            else:
                self.assertEqual(list(types(graph, sizes)), types_by_look(graph, sizes))
                self.assertEqual(len(types(graph, sizes)), count)
        self.assertGreater(len(counts), 5)

    def test_too_many(self):
        for graph, sizes in (
                (BOW, (3, 4)), (BOW, (4, 4)), (DOOR, (2, 4, 4)), (DOOR, (4, 4, 4)),
                ((EIGHT, PAIRS, ((6, 7),)), (2,) * 8), ((EIGHT, PAIRS, ((0, 1),)), (2,) * 8),
                ((EIGHT[:6], tuple(one for one in PAIRS if one[1] < 6), ((0, 5),)), (4, 4, 4, 4, 2, 2)),
                ((EIGHT, PAIRS, (tuple(range(8)),)), (2,) * 8)):
            count = type_count(graph, sizes)
            if count > 256:
                self.assertEqual(refusal(TooMany, types, graph, sizes).given, count)
            else:
                self.assertEqual(len(types(graph, sizes)), count)
        nine = (EIGHT[:5], (), (tuple(range(5)),))
        self.assertEqual(refusal(TooMany, types, nine, (4, 4, 4, 4, 2)).given, 512)

    def test_wrong_graphs_and_sizes(self):
        two = (("x", "y", "z"), (), ((0, 1), (1, 2)))
        for graph in WRONG + (LONE, PLAIN, two, list(BOW), BOW[:2], (("x", "y"), ((0, 1),), ((1, 0),))):
            self.assertIs(refusal(InvalidGraph, types, graph, (2, 2)).given, graph)
            self.assertIs(refusal(InvalidGraph, types, graph, None).given, graph)
        for sizes in WRONG + ((2,), (2, 5), (1, 2), (2, 2, 2), [2, 2], (2, True)):
            self.assertIs(refusal(InvalidSizes, types, BOW, sizes).given, sizes)
        # Sizes are looked at ahead of how many types there are.
        large = (EIGHT[:6], (), ((0, 1),))
        self.assertEqual(refusal(InvalidSizes, types, large, (4,) * 6).given, (4,) * 6)


class ChancesOfTypes(unittest.TestCase):
    def test_their_sums_are_q_of_each_part(self):
        source = random.Random(62)
        for seed in range(40):
            graph, sizes = drawn_bounded(source, most_types=64)
            model = some_model(graph, sizes, (source.randint(1, 4),), seed, zeros=seed % 4 == 0)
            chances = type_chances(model)
            self.assertEqual(sum(chances.values()), 1)
            self.assertEqual(sorted(chances), list(types(graph, sizes)))
            for part in lots_of(len(sizes))[1:]:
                if set(part) <= set(graph[2][0]):
                    for setting in settings(sizes):
                        told = sum(chance for kind, chance in chances.items() if answers_so(graph, sizes, kind, part, setting))
                        self.assertEqual(told, q_at(model, part, setting))


class ModelsByWeights(unittest.TestCase):
    def check(self, model, graph, sizes, told, tables, weights):
        found = model_of(graph, sizes, told, tables, weights)
        self.assertIs(is_positive(found), False)
        self.assertEqual(found[:2], (graph, sizes))
        self.assertEqual(found[2], (tuple(share for _, share in weights),))
        for lot, rows in zip(told, tables):
            self.assertEqual(table(found, lot), rows)
        for place, one in enumerate(graph[2][0]):
            rows = found[3][one]
            for at, row in enumerate(rows):
                kind = weights[at % len(weights)][0]
                answer = kind[place][at // len(weights)]
                self.assertEqual(row, tuple(((1 if worth == answer else 0), 1) for worth in range(sizes[one])))
        for one in range(len(sizes)):
            if one not in graph[2][0]:
                self.assertEqual(found[3][one], model[3][one])
        self.assertEqual(read_model(show_model(found)), found)
        return found

    def test_by_hand(self):
        found = model_of(BOW, (2, 2), WHOLE, BOTH, SOME)
        self.assertEqual(found[2], (((1, 8), (1, 8), (1, 4), (1, 8), (3, 8)),))
        one, two = ((1, 1), (0, 1)), ((0, 1), (1, 1))
        self.assertEqual(found[3], ((one, one, one, two, two), (one, one, two, one, one, one, two, one, one, two)))
        self.assertEqual(model_of(weights=SOME, tables=BOTH, told=WHOLE, sizes=(2, 2), graph=BOW), found)

    def test_the_types_of_drawn_models(self):
        tried = 0
        for model, graph, sizes, told, tables, question in drawn_programs(63, 150, most_types=64, states=3):
            weights = weights_of_model(model)
            found = self.check(model, graph, sizes, told, tables, weights)
            self.assertEqual(effect_at(found, question), effect_at(model, question))
            tried += len(weights) > 20
        self.assertGreater(tried, 15)

    def test_lots_without_a_told_part(self):
        # x of the hidden lot is told by nothing, and y neither: any weights tell the tables.
        graph = (("a", "x", "y"), ((0, 1),), ((1, 2),))
        model = some_model(graph, (2, 2, 2), (2,), 5)
        tables = (table(model, (0,)),)
        self.check(model, graph, (2, 2, 2), ((0,),), tables, ((((1, 0), (1,)), (1, 1)),))
        self.check(model, graph, (2, 2, 2), ((0,),), tables, ((((0, 0), (0,)), (1, 3)), (((1, 1), (1,)), (2, 3))))

    def test_weights_that_no_told_part_looks_at(self):
        # Nothing of the hidden lot is told, so that it is the form of the weights alone that may be wrong.
        graph = (("a", "x", "y"), ((0, 1),), ((1, 2),))
        rows = (((1, 3),) * 4 + ((2, 3),) * 4,)
        right = ((((0, 1), (0,)), (1, 3)), (((1, 1), (1,)), (2, 3)))
        things = (graph, (2, 2, 2), ((0,),), rows)
        self.assertEqual(len(model_of(*things, right)[2][0]), 2)
        for weights in bends(right):
            self.assertIs(refusal(InvalidWeights, model_of, *things, weights).given, weights)
        last = right[1:]
        for kind in ((), ((0, 1),), ((0, 1), (0,), ()), ((0, 1), (0,), (0,)), ((0,), (0,)), ((0, 1, 0), (0,)), ((), (0,)), ((0, 1), ()),
                     ((0, 1), (0, 0)), ((0, 2), (0,)), ((0, -1), (0,)), ((0, 1), (2,)), ((0, 1), (-1,))):
            weights = ((kind, (1, 3)),) + last
            self.assertIs(refusal(InvalidWeights, model_of, *things, weights).given, weights)
        for share in ((1, 4), (1, 2), (0, 1), (-1, 3), (2, 6), (1, 3, 1), (1,), ()):
            weights = ((right[0][0], share),) + last
            self.assertIs(refusal(InvalidWeights, model_of, *things, weights).given, weights)
        for weights in ((), last, right[::-1], right + last, last + last, ((right[0][0], (1, 3)), (right[0][0], (2, 3))),
                        right[:1] + ((right[1][0], (2, 3), ()),), right[:1] + ((right[1][0],),)):
            self.assertIs(refusal(InvalidWeights, model_of, *things, weights).given, weights)

    def test_64_and_65_weights(self):
        graph = (EIGHT[:7], (), (tuple(range(7)),))
        every = types(graph, (2,) * 7)
        for count in (1, 63, 64, 65, 128):
            weights = tuple((kind, (1, count)) for kind in every[:count])
            share = Fraction(sum(kind[6][0] == 0 for kind, _ in weights), count)
            if share in (0, 1):
                continue
            rows = tuple(pair(share if setting[6] == 0 else 1 - share) for setting in settings((2,) * 7))
            if count > 64:
                self.assertEqual(refusal(TooMany, model_of, graph, (2,) * 7, ((6,),), (rows,), weights).given, count)
            else:
                found = model_of(graph, (2,) * 7, ((6,),), (rows,), weights)
                self.assertEqual(len(found[2][0]), count)
                self.assertEqual(table(found, (6,)), rows)
            # Weights that don't tell the tables are refused ahead of so many.
            other = tuple((1, 3) if setting[6] else (2, 3) for setting in settings((2,) * 7))
            if share != Fraction(2, 3):
                self.assertIs(refusal(InvalidWeights, model_of, graph, (2,) * 7, ((6,),), (other,), weights).given, weights)

    def test_wrong_weights(self):
        def wrong(weights):
            self.assertIs(refusal(InvalidWeights, model_of, BOW, (2, 2), WHOLE, BOTH, weights).given, weights)
        for weights in bends(SOME):
            wrong(weights)
        first, rest = SOME[0], SOME[1:]
        wrong(SOME[::-1])
        wrong((SOME[1], SOME[0]) + SOME[2:])
        wrong((first,) + SOME)
        wrong(((first[0], (1, 16)), (first[0], (1, 16))) + rest)
        wrong(SOME[:-1])
        wrong(((first[0], (0, 1)),) + rest)
        wrong(((first[0], (-1, 8)),) + rest)
        wrong(((first[0], (2, 16)),) + rest)
        wrong(((first[0], (1, 16)),) + rest)
        wrong(((first[0], (1, 4)),) + rest)
        wrong(SOME[:4] + ((SOME[4][0], (1, 4)),))
        # A type of chance 0 that is not there otherwise.
        wrong(SOME + ((((1,), (1, 0)), (0, 1)),))
        for kind in (((0,), (0, 2)), ((0,), (0,)), ((0,), (0, 0, 0)), ((0,),), ((0, 0), (0, 0)), ((2,), (0, 0)), ((0,), (0, 0), ()),
                     ((-1,), (0, 0)), ((0,), 0), (0, (0, 0)), [(0,), (0, 0)], ((0,), [0, 0])):
            wrong(((kind, (1, 8)),) + rest)
        # Right ones that tell other tables.
        wrong(((((0,), (0, 0)), (1, 1)),))
        wrong(((first[0], (1, 16)), (SOME[1][0], (1, 8)), (SOME[2][0], (1, 4)), (SOME[3][0], (3, 16)), SOME[4]))
        wrong(())

    def test_tables_that_no_model_has_take_no_weights(self):
        for told, tables in (
                (WHOLE, (((1, 4), (1, 4), (1, 8), (1, 4)),)), (((0,), (0, 1)), (((1, 2), (1, 2), (1, 2), (1, 2)),
                                                                                ((1, 4), (1, 8), (1, 4), (3, 8)))),
                (((0,),), (((1, 2), (1, 4), (1, 2), (3, 4)),))):
            for weights in (SOME, ((((0,), (0, 0)), (1, 2)), (((1,), (0, 0)), (1, 2)))):
                self.assertIs(refusal(InvalidWeights, model_of, BOW, (2, 2), told, tables, weights).given, weights)

    def test_one_chance_otherwise(self):
        for at in range(4):
            for chance in ((1, 3), (1, 2), (1, 16)):
                rows = BOTH[0][:at] + (chance,) + BOTH[0][at + 1:]
                self.assertIs(refusal(InvalidWeights, model_of, BOW, (2, 2), WHOLE, (rows,), SOME).given, SOME)

    def test_what_is_told_ahead_of_weights(self):
        graph = (("a", "b", "x", "y"), ((0, 2), (2, 3)), ((2, 3),))
        flat = ((1, 2),) * 16
        self.assertEqual(refusal(NotIdentified, model_of, graph, (2,) * 4, ((2, 3), (0,)), (flat, flat), None).lot, (1,))
        self.assertEqual(refusal(NotIdentified, model_of, graph, (2,) * 4, ((2, 3),), (flat,), None).lot, (0,))
        large = (("x", "y"), ((0, 1),), ((0, 1),))
        self.assertEqual(refusal(TooMany, model_of, large, (4, 4), WHOLE, (((1, 16),) * 16,), None).given, 1024)

    def test_between_tells_weights_that_it_takes(self):
        for model, graph, sizes, told, tables, question in drawn_programs(64, 25, most_types=32):
            weights = between(graph, sizes, told, tables, question, pair(effect_at(model, question)))
            self.assertEqual(effect_at(self.check(model, graph, sizes, told, tables, weights), question),
                             effect_at(model, question))


if __name__ == "__main__":
    unittest.main()
