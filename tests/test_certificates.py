"""Claims with papers: point F1, and causaleffects.certificates."""

import random
import unittest
from fractions import Fraction

from causaleffects.bounds import bounds, papers
from causaleffects.certificates import (certify_between, certify_bounds, certify_effect, certify_formula, certify_hedge,
                                        certify_identified, certify_models, certify_table)
from causaleffects.checker import accepts
from causaleffects.errors import (Identified, InvalidAsked, InvalidGraph, InvalidLot, InvalidModel, InvalidTables,
                                  InvalidTold, NoModel, NotBetween, NotIdentified, NotWithin, TooMany)
from causaleffects.identify import formula, is_derivation, is_identified, stuck
from causaleffects.models import effect, is_positive, table
from causaleffects.rounds import greatest_hedge, rounds
from causaleffects.twomodels import two_models
from helpers import BOW, DOOR, FLIPS, PLAIN, SEEN, pair, refusal, some_models
from looks import drawn_asked, drawn_graph, drawn_questions, hedges_by_look, is_joined, lots_of
from responses import are_right_weights, drawn_programs, effect_at
from showing import shows

BOTH = (((1, 4), (1, 4), (1, 8), (3, 8)),)
WHOLE = ((0, 1),)
OPPOSITE = {"identified": ("not identified",), "not identified": ("identified",), "hedge": ("no hedge",), "no hedge": ("hedge",),
            "formula": ("no formula",), "least": ("greatest", "met"), "greatest": ("least", "met"), "met": ("least", "greatest"),
            "table": ("effect",), "effect": ("table",)}


class Certificates(unittest.TestCase):
    def check(self, found, claim):
        """The paper shows the claim, and none of the opposite one."""
        self.assertEqual((type(found), len(found)), (tuple, 2))
        self.assertEqual(found[0], claim)
        self.assertIs(accepts(*found), True)
        for word in OPPOSITE[claim[0]]:
            self.assertIs(accepts((word,) + claim[1:], found[1]), False)
        if claim[0] == "hedge":
            self.assertIs(accepts(("no hedge", claim[1], claim[2], claim[4]), found[1]), False)
        return found[1]

    def test_identified_and_not(self):
        counts = [0, 0]
        for things in drawn_questions(101, 400, 6):
            told = is_identified(*things)
            word = "identified" if told else "not identified"
            paper = self.check(certify_identified(*things), (word,) + things)
            counts[told] += 1
            if told:
                self.assertTrue(is_derivation(*things, paper))
                refusal(Identified, certify_models, *things)
                self.check(certify_formula(*things), ("formula",) + things + (formula(*things),))
            else:
                self.assertEqual(paper, stuck(*things))
                self.assertEqual(refusal(NotIdentified, certify_formula, *things).lot, paper[0])
        self.assertGreater(min(counts), 60)

    def test_models(self):
        tried = 0
        for things in drawn_questions(102, 250, 5):
            if not is_identified(*things):
                try:
                    told = two_models(*things)
                except TooMany as many:
                    self.assertEqual(refusal(TooMany, certify_models, *things).given, many.given)
                    continue
                paper = self.check(certify_models(*things), ("not identified",) + things)
                self.assertEqual(paper, told)
                self.assertTrue(is_positive(paper[0]) and is_positive(paper[1]))
                tried += 1
        self.assertGreater(tried, 30)

    def test_hedges(self):
        source = random.Random(103)
        counts = [0, 0]
        for _ in range(150):
            graph = drawn_graph(source, source.randint(1, 6))
            every = lots_of(len(graph[0]))
            lot = source.choice(every)
            ends = source.choice(every)
            if not ends or not set(ends) <= set(lot) or not is_joined(graph, ends):
                continue
            great = greatest_hedge(graph, lot, ends)
            if great is None:
                paper = self.check(certify_hedge(graph, lot, ends), ("no hedge", graph, ends, lot))
                self.assertEqual(paper, rounds(graph, lot, ends))
                self.assertIs(accepts(("hedge", graph, ends, lot, lot), ()), False)
            else:
                self.assertEqual(self.check(certify_hedge(graph, lot, ends), ("hedge", graph, ends, great, lot)), ())
                for hedge in hedges_by_look(graph, ends, lot):
                    self.assertLessEqual(set(hedge), set(great))
            counts[great is None] += 1
        self.assertGreater(sum(counts), 20)
        self.assertEqual(certify_hedge(BOW, (0, 1), (1,)), (("hedge", BOW, (1,), (0, 1), (0, 1)), ()))
        self.assertEqual(certify_hedge(DOOR, (0, 1, 2), (1,)), (("no hedge", DOOR, (1,), (0, 1, 2)), ((0, 1, 2), (1,))))

    def test_tables_and_effects(self):
        source = random.Random(104)
        for model in some_models():
            every = lots_of(len(model[1]))
            lot = source.choice(every)
            self.assertEqual(self.check(certify_table(model, lot), ("table", model, lot, table(model, lot))), ())
            deeds, asked = drawn_asked(source, len(model[1]))
            chances = effect(model, deeds, asked)
            self.assertEqual(self.check(certify_effect(model, deeds, asked), ("effect", model, deeds, asked, chances)), ())

    def test_bounds(self):
        wide = 0
        for model, graph, sizes, told, tables, question in drawn_programs(105, 80):
            things = (graph, sizes, told, tables, question)
            found = certify_bounds(*things)
            self.assertEqual((type(found), len(found)), (tuple, 2))
            ends = bounds(*things)
            own = pair(effect_at(model, question))
            for word, one, end, whole in zip(("least", "greatest"), found, ends, papers(*things)):
                claim = (word,) + things + (end,)
                self.assertEqual(one[0], claim)
                self.assertIs(accepts(*one), True)
                self.assertEqual((type(one[1]), len(one[1])), (tuple, 2))
                self.assertTrue(are_right_weights(graph, sizes, told, tables, one[1][0]))
                self.assertEqual(len(whole), 3)
                self.assertIs(accepts(("met",) + claim[1:], one[1]), False)
            if ends[0] != ends[1]:
                wide += 1
                self.assertIs(accepts(("greatest",) + found[0][0][1:], found[0][1]), False)
                self.assertIs(accepts(("least",) + found[1][0][1:], found[1][1]), False)
            self.check(certify_between(*things, own), ("met",) + things + (own,))
        self.assertGreater(wide, 10)

    def test_what_is_certified_is_shown_by_the_words_of_f1(self):
        for things in drawn_questions(106, 30, 4):
            self.assertIs(shows(*certify_identified(*things)), True)
            if is_identified(*things):
                self.assertIs(shows(*certify_formula(*things)), True)
            else:
                self.assertIs(shows(*certify_models(*things)), True)
        for model, graph, sizes, told, tables, question in drawn_programs(107, 15, most_types=32):
            things = (graph, sizes, told, tables, question)
            for one in certify_bounds(*things) + (certify_between(*things, pair(effect_at(model, question))),):
                self.assertIs(shows(*one), True)

    def test_by_name(self):
        self.assertEqual(certify_identified(asked=(1,), deeds=(0,), told=WHOLE, graph=BOW)[1], ((1,), ((0, 1),)))
        self.assertEqual(certify_models(asked=(1,), deeds=(0,), told=WHOLE, graph=BOW)[1], two_models(BOW, WHOLE, (0,), (1,)))
        self.assertEqual(certify_hedge(ends=(1,), lot=(0, 1), graph=BOW)[1], ())
        self.assertEqual(certify_formula(asked=(1,), deeds=(0,), told=SEEN, graph=DOOR)[1], ((0, ((0, 1, 2), (1,))),))
        self.assertEqual(certify_table(lot=(0,), model=FLIPS)[0][3], table(FLIPS, (0,)))
        self.assertEqual(certify_effect(asked=(1,), deeds=(0,), model=FLIPS)[0][4], effect(FLIPS, (0,), (1,)))
        question = ((0,), (1,), (1, 1))
        ends = certify_bounds(question=question, tables=BOTH, told=WHOLE, sizes=(2, 2), graph=BOW)
        self.assertEqual([one[0][-1] for one in ends], [(3, 8), (7, 8)])
        met = certify_between(value=(1, 2), question=question, tables=BOTH, told=WHOLE, sizes=(2, 2), graph=BOW)
        self.assertEqual(met[0], ("met", BOW, (2, 2), WHOLE, BOTH, question, (1, 2)))

    def test_errors_of_the_functions_that_are_named(self):
        self.assertEqual(refusal(NotWithin, certify_hedge, DOOR, (0, 1), (2,)).given, (2,))
        self.assertEqual(refusal(InvalidLot, certify_hedge, DOOR, (0, 1), (0, 1)).given, (0, 1))
        self.assertEqual(refusal(InvalidAsked, certify_identified, BOW, WHOLE, (0,), (0,)).given, (0,))
        self.assertEqual(refusal(InvalidTold, certify_models, BOW, ((0,), ()), (0,), (1,)).index, 1)
        self.assertEqual(refusal(InvalidModel, certify_table, FLIPS[:3], (5,)).given, FLIPS[:3])
        self.assertEqual(refusal(InvalidAsked, certify_effect, FLIPS, (1,), ()).given, ())
        question = ((0,), (1,), (1, 1))
        self.assertIs(refusal(InvalidGraph, certify_bounds, PLAIN, None, None, None, None).given, PLAIN)
        self.assertEqual(refusal(InvalidTables, certify_between, BOW, (2, 2), WHOLE, (((0, 1),) * 4,), None, None).index, 0)
        self.assertIs(refusal(InvalidAsked, certify_bounds, BOW, (2, 2), WHOLE, BOTH, 3).given, 3)
        half = (((1, 2),) * 4,)
        refusal(NoModel, certify_bounds, BOW, (2, 2), WHOLE, half, question)
        refusal(NoModel, certify_between, BOW, (2, 2), WHOLE, half, question, None)
        for value in ((1, 4), (1, 1), (2, 4), None, Fraction(1, 2)):
            self.assertIs(refusal(NotBetween, certify_between, BOW, (2, 2), WHOLE, BOTH, question, value).given, value)


if __name__ == "__main__":
    unittest.main()
