"""Which effects are identified, and by which told lots: points C4, C7, and the interface of causaleffects.identify."""

import random
import unittest
from itertools import combinations

from causaleffects.errors import (InvalidAsked, InvalidDerivation, InvalidGraph, InvalidLot, InvalidTold, NotIdentified)
from causaleffects.identify import (derivation, formula, formula_along, helpful, is_derivation, is_identified, least_told,
                                    single_lots, stuck)
from causaleffects.models import effect, table
from causaleffects.rounds import greatest_hedge, needed, needs
from causaleffects.values import told_effect, value_of
from helpers import BOW, DOOR, EIGHT, LADDER, LONE, PAIRS, PLAIN, SEEN, WRONG, refusal
from looks import (districts_by_closure, drawn_asked, drawn_graph, drawn_model, drawn_questions, hedges_by_look, lots_of,
                   needed_by_closure, tells_by_look, untold_by_look)
from test_values import spread_out

SOME = ((0,), (1,), (2,), (0, 1, 2))
CALLS = (is_identified, helpful, derivation, formula, stuck, least_told)


def models_tables(model, told):
    """The tables of told lots in a model."""
    return tuple(table(model, lot) for lot in told)


class Identified(unittest.TestCase):
    def test_by_hand(self):
        self.assertIs(is_identified(DOOR, SEEN, (0,), (2,)), True)
        self.assertIs(is_identified(BOW, ((0, 1),), (0,), (1,)), False)
        self.assertIs(is_identified(BOW, ((0, 1),), (), (1,)), True)
        self.assertIs(is_identified(BOW, ((1,),), (0,), (1,)), True)
        self.assertIs(is_identified(BOW, ((0, 1), (1,)), (0,), (1,)), True)
        self.assertIs(is_identified(BOW, ((0,),), (0,), (1,)), False)
        self.assertIs(is_identified(asked=(1,), deeds=(0,), told=((0, 1),), graph=PLAIN), True)
        self.assertIs(is_identified(LONE, ((0,),), (), (0,)), True)
        # What is asked of x, y being set by hand, is what is seen of x.
        self.assertIs(is_identified(BOW, ((0, 1),), (1,), (0,)), True)
        self.assertIs(is_identified(LADDER, (tuple(range(8)),), tuple(range(7)), (7,)), True)

    def test_more_told_is_not_always_better(self):
        self.assertEqual(single_lots(BOW, (0,), (1,)), ((1,),))
        self.assertEqual(helpful(BOW, ((0, 1), (1,), (0,)), (0,), (1,)), (((1,), (1,)),))

    def test_against_a_look_through_all_lots(self):
        found = {True: 0, False: 0}
        for graph, told, deeds, asked in drawn_questions(11, 500, 6):
            untold = untold_by_look(graph, told, deeds, asked)
            self.assertIs(is_identified(graph, told, deeds, asked), not untold)
            self.assertEqual(derivation(graph, told, deeds, asked) is None, bool(untold))
            self.assertEqual(stuck(graph, told, deeds, asked) is None, not untold)
            if untold:
                self.assertEqual(refusal(NotIdentified, formula, graph, told, deeds, asked).lot, untold[0])
            found[not untold] += 1
        self.assertGreater(min(found.values()), 100)

    def test_graphs_of_seven_and_eight(self):
        source = random.Random(12)
        for at in range(24):
            graph = drawn_graph(source, 7 + at % 2, most_lots=28 if at % 3 == 0 else 8)
            told = (tuple(range(7 + at % 2)), tuple(range(0, 7 + at % 2, 2)), (5, 6))
            deeds, asked = drawn_asked(source, 7 + at % 2)
            untold = untold_by_look(graph, told, deeds, asked)
            self.assertIs(is_identified(graph, told, deeds, asked), not untold)

    def test_the_value_is_the_effect_in_drawn_models(self):
        tried = 0
        for seed, (graph, told, deeds, asked) in enumerate(drawn_questions(13, 260, 5)):
            if not untold_by_look(graph, told, deeds, asked):
                model = drawn_model(graph, seed, most_states=3, size=3)
                tables = models_tables(model, told)
                told_formula = formula(graph, told, deeds, asked)
                wanted = effect(model, deeds, asked)
                self.assertEqual(told_effect(graph, model[1], told, tables, deeds, asked), wanted)
                self.assertEqual(value_of(graph, model[1], told, tables, told_formula),
                                 spread_out(model[1], deeds, asked, wanted))
                tried += 1
        self.assertGreater(tried, 100)

    def test_eight_variables(self):
        source = random.Random(14)
        tried = 0
        for seed in range(30):
            graph = drawn_graph(source, 8, most_lots=7)
            told = (tuple(range(8)),)
            deeds, asked = drawn_asked(source, 8)
            if is_identified(graph, told, deeds, asked):
                model = drawn_model(graph, seed)
                wanted = effect(model, deeds, asked)
                self.assertEqual(told_effect(graph, model[1], told, models_tables(model, told), deeds, asked), wanted)
                tried += 1
        self.assertGreater(tried, 8)

    def test_experiments_that_tell_it_together_and_not_without_one(self):
        # Each of b, c and d has a hidden cause in common with a alone, which is set by hand in the effect.
        chain = (("a", "b", "c", "d"), ((0, 1), (1, 2), (2, 3)), ((0, 1), (0, 2), (0, 3)))
        asked = (3,)
        self.assertEqual(needs(chain, (0,), asked), ((1,), (2,), (3,)))
        whole = ((1,), (2, 3), (0, 3))
        self.assertEqual(helpful(chain, whole, (0,), asked), (((1,), (0,)), ((2,), (1,)), ((3,), (1, 2))))
        for few in ((0,), (1,), (2,), (0, 2), (1, 2)):
            self.assertFalse(is_identified(chain, tuple(whole[at] for at in few), (0,), asked), few)
        self.assertTrue(is_identified(chain, whole[:2], (0,), asked))
        told = ((1,), (2,), (3,))
        self.assertTrue(is_identified(chain, told, (0,), asked))
        for left in combinations(told, 2):
            self.assertFalse(is_identified(chain, left, (0,), asked))
        model = drawn_model(chain, 3, most_states=3, size=3)
        self.assertEqual(told_effect(chain, model[1], told, models_tables(model, told), (0,), asked), effect(model, (0,), asked))


class Stuck(unittest.TestCase):
    def test_by_hand(self):
        self.assertEqual(stuck(BOW, ((0,), (0, 1)), (0,), (1,)), ((1,), ((0, 1),)))
        self.assertEqual(stuck(BOW, ((0,),), (0,), (1,)), ((1,), ()))
        self.assertIsNone(stuck(DOOR, SEEN, (0,), (2,)))
        self.assertIsNone(stuck(asked=(2,), deeds=(0,), told=SEEN, graph=DOOR))
        self.assertEqual(stuck(DOOR, ((0,), (2,)), (0,), (2,)), ((1,), ()))

    def test_unlike_ones_ascending(self):
        graph = (("a", "b", "c", "d"), ((0, 3), (1, 3), (2, 3)), ((0, 3), (1, 3), (2, 3)))
        told = ((2, 3), (0, 1, 2, 3), (0, 3), (0, 1, 3), (0, 1, 2), (1, 3))
        self.assertEqual(stuck(graph, told, (0, 1, 2), (3,)), ((3,), ((0, 1, 2, 3), (0, 1, 3), (0, 3), (1, 3), (2, 3))))
        # a and b are alone in these, so the rounds end at one lot in both.
        same = (("a", "b", "c", "d"), ((2, 3),), ((2, 3),))
        self.assertEqual(stuck(same, ((0, 1, 2, 3), (0, 2, 3), (1, 2, 3)), (2,), (3,)), ((3,), ((2, 3),)))

    def test_the_first_of_several_districts(self):
        graph = (("a", "b", "c", "d"), ((0, 1), (2, 3)), ((0, 1), (2, 3)))
        self.assertEqual(stuck(graph, ((0, 1, 2, 3),), (0, 2), (1, 3)), ((1,), ((0, 1),)))
        self.assertEqual(stuck(graph, ((0, 1, 2, 3), (1,)), (0, 2), (1, 3)), ((3,), ((2, 3),)))
        self.assertEqual(refusal(NotIdentified, formula, graph, ((1,), (0, 1, 2, 3)), (0, 2), (1, 3)).lot, (3,))

    def test_against_looks(self):
        tried = 0
        for graph, told, deeds, asked in drawn_questions(15, 900, 6):
            untold = untold_by_look(graph, told, deeds, asked)
            if untold:
                small = untold[0]
                having = [lot for lot in told if set(small) <= set(lot)]
                greatest = {max(hedges_by_look(graph, small, lot), key=len) for lot in having}
                self.assertEqual(stuck(graph, told, deeds, asked), (small, tuple(sorted(greatest))))
                self.assertEqual(greatest, {greatest_hedge(graph, lot, small) for lot in having})
                tried += len(greatest)
        self.assertGreater(tried, 100)


class Helpful(unittest.TestCase):
    def test_by_hand(self):
        self.assertEqual(helpful(DOOR, SOME, (0,), (2,)), (((1,), (1, 3)), ((2,), (2, 3))))
        self.assertEqual(helpful(BOW, ((0, 1),), (0,), (1,)), (((1,), ()),))
        self.assertEqual(helpful(deeds=(), asked=(0,), told=((0,),), graph=LONE), (((0,), (0,)),))

    def test_against_a_look_through_all_lots(self):
        for graph, told, deeds, asked in drawn_questions(16, 300, 6):
            wanted = []
            for district in districts_by_closure(graph, needed_by_closure(graph, deeds, asked)):
                wanted.append((district, tuple(at for at, lot in enumerate(told) if tells_by_look(graph, lot, district))))
            self.assertEqual(helpful(graph, told, deeds, asked), tuple(wanted))


class Least(unittest.TestCase):
    def test_by_hand(self):
        self.assertEqual(least_told(DOOR, SOME, (0,), (2,)), ((1, 2), (3,)))
        self.assertEqual(least_told(BOW, ((0, 1),), (0,), (1,)), ())
        self.assertEqual(least_told(BOW, ((1,), (0, 1)), (0,), (1,)), ((0,),))
        self.assertEqual(least_told(asked=(0,), deeds=(), told=((0,),), graph=LONE), ((0,),))
        # Three districts; each of two pairs of lots tells all, and so does one by itself.
        graph = (("a", "b", "c"), (), ())
        told = ((0,), (1, 2), (0, 1), (2,), (0, 1, 2), (1,))
        self.assertEqual(least_told(graph, told, (), (0, 1, 2)), ((0, 1), (0, 3, 5), (1, 2), (2, 3), (4,)))

    def test_against_a_look_through_all_lots_of_indexes(self):
        unlike = 0
        for graph, told, deeds, asked in drawn_questions(17, 260, 5):
            enough = [lot for lot in lots_of(len(told)) if lot and not untold_by_look(
                graph, tuple(told[at] for at in lot), deeds, asked)]
            least = tuple(sorted(lot for lot in enough if not any(set(one) < set(lot) for one in enough)))
            self.assertEqual(least_told(graph, told, deeds, asked), least)
            for lot in lots_of(len(told))[1:]:
                identified = is_identified(graph, tuple(told[at] for at in lot), deeds, asked)
                self.assertEqual(identified, any(set(one) <= set(lot) for one in least))
            unlike += len(least) > 1
        self.assertGreater(unlike, 40)


class Single(unittest.TestCase):
    def test_by_hand(self):
        self.assertEqual(single_lots(DOOR, (0,), (2,)), ((0, 1, 2), (1, 2)))
        self.assertEqual(single_lots(BOW, (0,), (1,)), ((1,),))
        self.assertEqual(single_lots(asked=(0,), deeds=(), graph=LONE), ((0,),))
        self.assertEqual(single_lots(DOOR, (0,), (1,)), ((0, 1), (0, 1, 2), (1,), (1, 2)))
        self.assertEqual(len(single_lots((EIGHT, (), PAIRS), (), (0,))), 128)

    def test_against_a_look_through_all_lots(self):
        for graph, _, deeds, asked in drawn_questions(18, 150, 5):
            districts = districts_by_closure(graph, needed_by_closure(graph, deeds, asked))
            wanted = [lot for lot in lots_of(len(graph[0])) if all(tells_by_look(graph, lot, one) for one in districts)]
            self.assertEqual(single_lots(graph, deeds, asked), tuple(sorted(wanted)))

    def test_the_lot_of_the_districts_is_one_of_them(self):
        for graph, _, deeds, asked in drawn_questions(19, 60, 8, most_lots=28):
            lots = single_lots(graph, deeds, asked)
            self.assertIn(needed(graph, deeds, asked), lots)
            for lot in lots:
                self.assertTrue(is_identified(graph, (lot,), deeds, asked))
            self.assertEqual(sorted(set(lots)), list(lots))


class Refused(unittest.TestCase):
    def test_graphs(self):
        for graph in WRONG + (list(DOOR), DOOR[:2], (EIGHT + ("i",), (), ()), (("x", "y"), ((1, 0),), ())):
            for call in CALLS:
                self.assertIs(refusal(InvalidGraph, call, graph, (), (5,), ()).given, graph)
                self.assertIs(refusal(InvalidGraph, call, asked=(), deeds=(), told=(), graph=graph).given, graph)
            for call in (is_derivation, formula_along):
                self.assertIs(refusal(InvalidGraph, call, graph, SEEN, (0,), (2,), None).given, graph)
            self.assertIs(refusal(InvalidGraph, single_lots, graph, (5,), ()).given, graph)

    def test_told(self):
        wrong = [((), None), (None, None), ([(0,)], None), (((0,),) * 7, None), (((),), 0), (((0,), (0,)), 1),
                 (((0,), (1,), (3,)), 2), (((1, 0),), 0), (((0,), None, ()), 1)]
        wrong += [((value,), 0) for value in WRONG] + [((SEEN[0], value), 1) for value in WRONG]
        for call in CALLS + (is_derivation, formula_along):
            last = (None,) if call in (is_derivation, formula_along) else ()
            for told, index in wrong:
                self.assertEqual(refusal(InvalidTold, call, DOOR, told, (0,), (2,), *last).index, index)
                self.assertEqual(refusal(InvalidTold, call, DOOR, told, (5,), (), *last).index, index)

    def test_what_is_asked(self):
        for call in CALLS + (single_lots,):
            ahead = (DOOR,) if call is single_lots else (DOOR, SEEN)
            for lot in WRONG + ((1, 0), (3,), [0], (True,), 0):
                self.assertIs(refusal(InvalidLot, call, *ahead, lot, (1,)).given, lot)
                self.assertIs(refusal(InvalidLot, call, *ahead, (0,), lot).given, lot)
                self.assertIs(refusal(InvalidLot, call, *ahead, lot, ()).given, lot)
            for deeds in lots_of(3):
                for asked in lots_of(3):
                    if not asked or set(asked) & set(deeds):
                        self.assertIs(refusal(InvalidAsked, call, *ahead, deeds, asked).given, asked)

    def test_not_identified_comes_last(self):
        self.assertEqual(refusal(NotIdentified, formula, BOW, ((0, 1),), (0,), (1,)).lot, (1,))
        self.assertEqual(refusal(NotIdentified, formula, asked=(1,), deeds=(0,), graph=BOW, told=((0,),)).lot, (1,))
        self.assertEqual(refusal(InvalidAsked, formula, BOW, ((0, 1),), (0,), (0,)).given, (0,))
        self.assertIs(is_derivation(BOW, ((0, 1),), (0,), (1,), None), False)
        self.assertIsNone(refusal(InvalidDerivation, formula_along, BOW, ((0, 1),), (0,), (1,), None).given)


if __name__ == "__main__":
    unittest.main()
