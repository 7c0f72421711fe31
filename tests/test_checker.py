"""What the checker takes: point F1, and causaleffects.checker."""

import random
import unittest
from fractions import Fraction

from causaleffects.certificates import (certify_between, certify_bounds, certify_effect, certify_formula, certify_hedge,
                                        certify_identified, certify_models, certify_table)
from causaleffects.checker import accepts
from causaleffects.errors import TooMany
from causaleffects.identify import derivation, formula, formula_along, is_identified
from causaleffects.models import effect, table
from causaleffects.twomodels import two_models
from helpers import (BOW, DOOR, EIGHT, FLIPS, LADDER, LONE, PAIRS, PLAIN, SEEN, WRONG, Loud, Odd, nested, pair, settings,
                     some_model)
from looks import (drawn_asked, drawn_graph, drawn_model, drawn_questions, hedges_by_look, is_joined, lots_of,
                   part_lots)
from responses import drawn_programs, effect_at, type_chances, weights_of_model
from showing import changes, is_plain, shows, wrong_everywhere

BOTH = (((1, 4), (1, 4), (1, 8), (3, 8)),)
WHOLE = ((0, 1),)
BOUNDED = (BOW, (2, 2), WHOLE, BOTH, ((0,), (1,), (1, 1)))
SOME = ((0,), (1,), (2,), (0, 1, 2))
COIN = (LONE, (2,), (), ((((1, 3), (2, 3)),),))
TRIAL = (("z", "x", "y"), ((0, 1), (1, 2)), ((1, 2),))
WEIGHTS = ((((0,), (0, 0)), (1, 4)), (((0,), (1, 0)), (1, 4)), (((1,), (0, 0)), (1, 8)), (((1,), (0, 1)), (3, 8)))
SHARES = ((0, 1), (((0, 1), (0, 1), (0, 1), (1, 1)),))
FAN = (("a", "b", "c", "d"), ((0, 3), (1, 3), (2, 3)), ((0, 3), (1, 3), (2, 3)))


def small_pairs():
    """A claim of each word, with a paper that shows it."""
    yield certify_identified(DOOR, SEEN, (0,), (2,))
    yield certify_identified(BOW, WHOLE, (0,), (1,))
    yield certify_identified(BOW, ((0,),), (0,), (1,))
    yield certify_models(BOW, WHOLE, (0,), (1,))
    yield ("told by", DOOR, SOME, (0,), (2,), (1, 3)), ((1, ((1,),)), (3, ((0, 1, 2), (0, 2), (2,))))
    yield certify_hedge(BOW, (0, 1), (1,))
    yield certify_hedge(DOOR, (0, 1, 2), (2,))
    yield certify_formula(DOOR, SEEN, (0,), (2,))
    yield ("no formula", PLAIN, WHOLE, (0,), (1,), ("told", 0)), FLIPS
    yield certify_table(FLIPS, (0, 1))
    yield certify_table(COIN, ())
    yield certify_effect(FLIPS, (0,), (1,))
    yield from certify_bounds(*BOUNDED)
    yield certify_between(*BOUNDED, (1, 2))


class Examples(unittest.TestCase):
    def test_of_the_interface(self):
        self.assertIs(accepts(("hedge", BOW, (1,), (0, 1), (0, 1)), ()), True)
        self.assertIs(accepts(("no hedge", DOOR, (2,), (0, 1, 2)), ((0, 1, 2), (0, 2), (2,))), True)
        self.assertIs(accepts(("not identified", BOW, WHOLE, (0,), (1,)), ((1,), ((0, 1),))), True)
        self.assertIs(accepts(("identified", DOOR, SEEN, (0,), (1,)), ((0, ((0, 1, 2), (1,))),)), True)
        self.assertIs(accepts(("table", COIN, (0,), ((1, 3), (2, 3))), ()), True)
        self.assertIs(accepts(("table", COIN, (), ((1, 1), (1, 1))), None), False)
        self.assertIs(accepts(paper=(), claim=("table", COIN, (), ((1, 1), (1, 1)))), True)

    def test_of_each_word(self):
        self.assertEqual(len({claim[0] for claim, _ in small_pairs()}), 12)
        for claim, paper in small_pairs():
            self.assertIs(accepts(claim, paper), True)
            self.assertIs(shows(claim, paper), True)


class Otherwise(unittest.TestCase):
    """Right claims and papers, otherwise in one thing."""

    def test_claims(self):
        tried = taken = 0
        for claim, paper in small_pairs():
            for other in changes(claim):
                found = accepts(other, paper)
                self.assertIs(found, shows(other, paper), (other, paper))
                self.assertTrue(found is False or is_plain(other))
                tried += 1
                taken += found
        self.assertGreater(tried, 5000)
        self.assertGreater(taken, 200)

    def test_papers(self):
        tried = taken = 0
        for claim, paper in small_pairs():
            for other in changes(paper):
                found = accepts(claim, other)
                self.assertIs(found, shows(claim, other), (claim, other))
                tried += 1
                taken += found
        self.assertGreater(tried, 1500)
        self.assertGreater(taken, 0)

    def test_what_is_no_claim_and_no_paper(self):
        for claim, paper in small_pairs():
            for other in wrong_everywhere(claim):
                self.assertIs(accepts(other, paper), False)
            for other in wrong_everywhere(paper):
                self.assertIs(accepts(claim, other), False)
        for one in WRONG + ((), ("met",), ("",), ("no claim",), (("table",),), "table", ["table", COIN, (), ((1, 1), (1, 1))]):
            for other in WRONG + ((),):
                self.assertIs(accepts(one, other), False)
        for deep in (nested(300), nested(300, list), Odd(), Loud()):
            for word in ("identified", "not identified", "told by", "hedge", "no hedge", "formula", "no formula", "table",
                         "effect", "least", "greatest", "met"):
                for many in range(9):
                    self.assertIs(accepts((word,) + (deep,) * many, deep), False)
                    self.assertIs(accepts((word, BOW) + (deep,) * many, ()), False)

    def test_another_word(self):
        for claim, paper in small_pairs():
            for other, _ in small_pairs():
                word = other[0]
                found = accepts((word,) + claim[1:], paper)
                self.assertIs(found, shows((word,) + claim[1:], paper))
                if word != claim[0]:
                    # An end is met, too, but its paper has shares beside the weights.
                    self.assertIs(found, False)

    def test_all_papers_of_all_claims(self):
        every = list(small_pairs())
        for claim, own in every:
            for _, paper in every:
                self.assertIs(accepts(claim, paper), shows(claim, paper))


class Identified(unittest.TestCase):
    def test_derivations_whoever_wrote_them(self):
        claim = ("identified", DOOR, SOME, (0,), (2,))
        ways = [[(1, ((1,),)), (3, ((0, 1, 2), (1,))), (3, ((0, 1, 2), (0, 1), (1,)))],
                [(2, ((2,),)), (3, ((0, 1, 2), (0, 2), (2,)))]]
        for one in ways[0]:
            for other in ways[1]:
                self.assertIs(accepts(claim, (one, other)), True)
                self.assertIs(accepts(claim, (other, one)), False)
                self.assertIs(accepts(claim, (one,)), False)
                self.assertIs(accepts(claim, (one, other, other)), False)
                indexes = {one[0], other[0]}
                for lot in ((1,), (2,), (3,), (1, 2), (1, 3), (2, 3), (3, 2), (3, 3, 1), (0, 1, 2, 3), (), (3, 4), (1, 2, -1)):
                    self.assertIs(accepts(("told by",) + claim[1:] + (lot,), (one, other)),
                                  indexes <= set(lot) and set(lot) <= {0, 1, 2, 3})
        # From x and y no single step leads to y where all of x, m and y are told.
        self.assertIs(accepts(claim, (ways[0][0], (3, ((0, 1, 2), (2,))))), False)

    def test_just_one_of_both_has_a_paper(self):
        source = random.Random(91)
        for graph, told, deeds, asked in drawn_questions(92, 120, 5):
            things = (graph, told, deeds, asked)
            (word, *rest), paper = certify_identified(*things)
            self.assertEqual(tuple(rest), things)
            self.assertEqual(word, "identified" if is_identified(*things) else "not identified")
            self.assertIs(accepts((word,) + things, paper), True)
            other = "identified" if word == "not identified" else "not identified"
            self.assertIs(accepts((other,) + things, paper), False)
            if word == "identified":
                # No district and no hedges will do.
                for _ in range(10):
                    every = lots_of(len(graph[0]))
                    small = source.choice(every)
                    hedges = tuple(source.sample(every, min(len(every), 5)))
                    self.assertIs(accepts(("not identified",) + things, (small, hedges)), False)
                    self.assertIs(accepts(("not identified",) + things, (small, tuple(every))), False)

    def test_hedges_whoever_wrote_them(self):
        told = ((0, 3), (1, 3), (0, 1, 3), (2,))
        claim = ("not identified", FAN, told, (0, 1, 2), (3,))
        for hedges, right in (
                (((0, 3), (1, 3)), True), (((1, 3), (0, 3)), True), (((0, 3), (1, 3), (0, 1, 3)), True),
                (((0, 3), (0, 3), (1, 3), (2, 3)), True), (((1, 3), (), (0,), (0, 3)), True), (((0, 1, 3),), False),
                (((0, 3),), False), ((), False), (((0, 3), (1, 2, 3)), False), (((0, 3), (3, 1)), False),
                (((0, 3), (1, 3), (4,)), False), ([(0, 3), (1, 3)], False)):
            self.assertIs(accepts(claim, ((3,), hedges)), right, hedges)
        # A district that no told lot has needs no hedge; S has to be one that is needed.
        self.assertIs(accepts(("not identified", FAN, ((2,),), (0, 1, 2), (3,)), ((3,), ())), True)
        for small in ((0,), (0, 3), (), (3, 4), [3], 3):
            self.assertIs(accepts(claim, (small, ((0, 3), (1, 3)))), False)
        # The effect of nothing needs a, b, c and d as one district, which the whole lot tells.
        self.assertIs(accepts(("not identified", FAN, ((0, 1, 2, 3),), (), (3,)), ((3,), ((0, 3),))), False)

    def test_all_small_papers(self):
        # All districts with all hedges of them, and with a lot too few.
        found = 0
        for graph, told, deeds, asked in drawn_questions(93, 140, 4):
            claim = ("not identified", graph, told, deeds, asked)
            for small in lots_of(len(graph[0])):
                hedges = tuple(hedges_by_look(graph, small, tuple(range(len(graph[0])))))
                for row in (hedges, hedges[:-1], hedges[1:], hedges[::-1], ()):
                    self.assertIs(accepts(claim, (small, row)), shows(claim, (small, row)))
                found += accepts(claim, (small, hedges))
        self.assertGreater(found, 15)


class TwoModels(unittest.TestCase):
    def test_in_both_orders_and_twice(self):
        for graph, told, deeds, asked in ((BOW, WHOLE, (0,), (1,)), (FAN, ((0, 3), (1, 3)), (0, 1, 2), (3,))):
            claim = ("not identified", graph, told, deeds, asked)
            one, two = two_models(graph, told, deeds, asked)
            self.assertIs(accepts(claim, (one, two)), True)
            self.assertIs(accepts(claim, (two, one)), True)
            for paper in ((one, one), (two, two), (one,), (one, two, one), [one, two], (one, list(two)), (one, None), (None, two),
                          ((), two), (one, ())):
                self.assertIs(accepts(claim, paper), False)
            self.assertIs(accepts(("identified",) + claim[1:], (one, two)), False)

    def test_of_other_sizes_and_of_another_graph(self):
        one, two = two_models(BOW, WHOLE, (0,), (1,))
        claim = ("not identified", BOW, WHOLE, (0,), (1,))
        # Only what is seen of x is told; y has three values in one model, four in the other.
        three = some_model(BOW, (2, 3), (2,), 4)
        four = some_model(BOW, (2, 4), (2,), 4)
        loose = ("not identified", BOW, ((0,),), (0,), (1,))
        self.assertIs(accepts(loose, (three, four)), False)
        self.assertIs(accepts(loose, (three, some_model(BOW, (2, 3), (2,), 5)[:3] + three[3:])), False)
        # As many chances in one order, all alike.
        fair = {size: ((1, size),) * size for size in (2, 3)}
        flat = [(BOW, sizes, (((1, 1),),), ((fair[sizes[0]],), (fair[sizes[1]],) * sizes[0])) for sizes in ((2, 3), (3, 2))]
        self.assertEqual(table(flat[0], (0, 1)), table(flat[1], (0, 1)))
        self.assertNotEqual(effect(flat[0], (0,), (1,)), effect(flat[1], (0,), (1,)))
        self.assertIs(accepts(claim, tuple(flat)), False)
        another = three[:3] + (three[3][:1] + some_model(BOW, (2, 3), (2,), 6)[3][1:],)
        self.assertIs(accepts(loose, (three, another)), True)
        for graph in ((("y", "x"), BOW[1], BOW[2]), (("x", "z"), BOW[1], BOW[2]), PLAIN, (("x", "y"), (), ((0, 1),))):
            moved = ("not identified", graph, WHOLE, (0,), (1,))
            self.assertIs(accepts(moved, (one, two)), False)
            self.assertIs(accepts(claim, ((graph,) + one[1:], two)), False)
            self.assertIs(accepts(claim, ((graph,) + one[1:], (graph,) + two[1:])), False)

    def test_chances_0_and_unlike_told_tables(self):
        # x is as the hidden cause says, and y is x or is not, as it says: nothing of this is above 0 everywhere.
        sure, never = ((1, 1), (0, 1)), ((0, 1), (1, 1))
        fair = (((1, 2), (1, 2)),)
        follows = (BOW, (2, 2), fair, ((sure, never), (sure, never, sure, never)))
        copies = (BOW, (2, 2), fair, ((sure, never), (sure, sure, never, never)))
        self.assertEqual(table(follows, (0, 1)), table(copies, (0, 1)))
        self.assertNotEqual(effect(follows, (0,), (1,)), effect(copies, (0,), (1,)))
        claim = ("not identified", BOW, WHOLE, (0,), (1,))
        self.assertIs(accepts(claim, (follows, copies)), False)
        one, two = two_models(BOW, WHOLE, (0,), (1,))
        self.assertIs(accepts(claim, (one, copies)), False)
        # Their tables of y are not the same, those of both are.
        self.assertIs(accepts(("not identified", BOW, ((0, 1), (1,)), (0,), (1,)), (one, two)), False)
        self.assertIs(accepts(("not identified", BOW, ((1,),), (0,), (1,)), (one, two)), False)
        # The same effects, the same tables.
        self.assertIs(accepts(("not identified", BOW, ((0, 1),), (1,), (0,)), (one, two)), False)
        # One hidden state more than is needed: another model, the same tables and effects.
        more = (BOW, one[1], (tuple(one[2][0]) + ((0, 1),),), one[3])
        self.assertIs(accepts(claim, (one, more)), False)

    def test_up_to_eight_variables(self):
        tried = 0
        for graph, told, deeds, asked in drawn_questions(94, 60, 8):
            if is_identified(graph, told, deeds, asked):
                continue
            try:
                one, two = two_models(graph, told, deeds, asked)
            except TooMany:
                continue
            tried += len(graph[0]) > 5
            claim = ("not identified", graph, told, deeds, asked)
            self.assertIs(accepts(claim, (one, two)), True)
            self.assertIs(accepts(claim, (two, one)), True)
            self.assertIs(accepts(claim, (two, two)), False)
            self.assertIs(accepts(("identified",) + claim[1:], (one, two)), False)
        self.assertGreater(tried, 5)


class Hedges(unittest.TestCase):
    def test_against_looks(self):
        source = random.Random(95)
        taken = 0
        for _ in range(25):
            graph = drawn_graph(source, source.randint(2, 4))
            every = lots_of(len(graph[0]))
            for within in source.sample(every, min(5, len(every))) + every[-1:]:
                for small in source.sample(every, min(5, len(every))):
                    hedges = hedges_by_look(graph, small, within)
                    for great in every:
                        self.assertIs(accepts(("hedge", graph, small, great, within), ()), great in hedges)
                    joined = is_joined(graph, small) and set(small) <= set(within)
                    for middle in part_lots(within):
                        for paper in ((within, middle, small), (within, small), (small,), (within,)):
                            claim = ("no hedge", graph, small, within)
                            found = accepts(claim, paper)
                            self.assertIs(found, shows(claim, paper))
                            self.assertFalse(found and (hedges or not joined))
                            taken += found
        self.assertGreater(taken, 150)

    def test_a_lot_that_is_the_small_one(self):
        self.assertIs(accepts(("no hedge", DOOR, (0, 2), (0, 2)), ((0, 2),)), True)
        self.assertIs(accepts(("no hedge", DOOR, (0, 2), (0, 2)), ()), False)
        self.assertIs(accepts(("no hedge", DOOR, (0, 2), (0, 2)), ((0, 2), (0, 2))), False)
        self.assertIs(accepts(("no hedge", DOOR, (0, 1), (0, 1)), ((0, 1),)), False)
        self.assertIs(accepts(("no hedge", DOOR, (), (0, 1)), ((0, 1), ())), False)
        self.assertIs(accepts(("no hedge", DOOR, (1,), (0, 2)), ((0, 2), (1,))), False)

    def test_eight_variables(self):
        claim, paper = certify_hedge(LADDER, tuple(range(8)), (7,))
        self.assertEqual((claim[0], len(paper)), ("no hedge", 8))
        self.assertIs(accepts(claim, paper), True)
        for at in range(1, 7):
            self.assertIs(accepts(claim, paper[:at] + paper[at + 1:]), shows(claim, paper[:at] + paper[at + 1:]))
        full = (EIGHT, PAIRS, PAIRS)
        self.assertIs(accepts(("hedge", full, (7,), tuple(range(8)), tuple(range(8))), ()), True)


class Formulas(unittest.TestCase):
    def test_along_other_derivations(self):
        things = (DOOR, SOME, (0,), (2,))
        ways = [((one, other)) for one in ((1, ((1,),)), (3, ((0, 1, 2), (1,))), (3, ((0, 1, 2), (0, 1), (1,))))
                for other in ((2, ((2,),)), (3, ((0, 1, 2), (0, 2), (2,))))]
        made = {}
        for way in ways:
            given = formula_along(*things, way)
            made.setdefault(given, []).append(way)
            for other in ways:
                self.assertIs(accepts(("formula",) + things + (given,), other), formula_along(*things, other) == given)
        self.assertGreater(len(made), 3)

    def test_drawn(self):
        taken = refused = 0
        for at, (graph, told, deeds, asked) in enumerate(drawn_questions(96, 80, 4, most_lots=4)):
            if not is_identified(graph, told, deeds, asked):
                continue
            things = (graph, told, deeds, asked)
            given = formula(*things)
            way = derivation(*things)
            self.assertIs(accepts(("formula",) + things + (given,), way), True)
            self.assertIs(accepts(("no formula",) + things + (given,), way), False)
            model = drawn_model(graph, at)
            self.assertIs(accepts(("no formula",) + things + (given,), model), False)
            for other in (("sum", (), given), ("times", given, given), ("told", 0), ("over", given, given),
                          ("over", ("times", given, ("told", 0)), ("told", 0)), ("sum", tuple(range(len(graph[0]))), given)):
                claim = ("no formula",) + things + (other,)
                found = accepts(claim, model)
                self.assertIs(found, shows(claim, model))
                self.assertIs(accepts(("formula",) + things + (other,), way), other == given)
                # At most one of both has a paper.
                self.assertFalse(found and accepts(("formula",) + things + (other,), way))
                taken += found
                refused += not found
        self.assertGreater(taken, 40)
        self.assertGreater(refused, 20)

    def test_a_formula_of_another_question_or_model(self):
        seen = ((0, 1),)
        things = (PLAIN, seen, (0,), (1,))
        right = ("over", ("told", 0), ("sum", (1,), ("told", 0)))
        self.assertEqual(formula(*things), right)
        wrong = ("no formula",) + things + (("sum", (0,), ("told", 0)),)
        self.assertIs(accepts(wrong, FLIPS), True)
        # y does not hang on x here, so what is seen of y is its effect.
        alike = (PLAIN, (2, 2), (), ((((1, 3), (2, 3)),), (((1, 4), (3, 4)), ((1, 4), (3, 4)))))
        self.assertIs(accepts(wrong, alike), False)
        zero = (PLAIN, (2, 2), (), ((((1, 3), (2, 3)),), (((0, 1), (1, 1)), ((1, 4), (3, 4)))))
        for model in (zero, (("a", "b"),) + FLIPS[1:], ((("a", "b"), ((0, 1),), ()),) + FLIPS[1:], FLIPS[:3], list(FLIPS), ()):
            self.assertIs(accepts(wrong, model), False)
        # More values, other sizes: a model is enough, whatever its sizes are.
        self.assertIs(accepts(wrong, some_model(PLAIN, (3, 4), (), 5)), True)
        self.assertIs(accepts(("no formula",) + things + (right,), some_model(PLAIN, (3, 4), (), 5)), False)
        # Not identified: no formula has a derivation, and models show that some are none.
        stuck = (BOW, WHOLE, (0,), (1,))
        one, two = two_models(*stuck)
        self.assertTrue(accepts(("no formula",) + stuck + (right,), one) or accepts(("no formula",) + stuck + (right,), two))
        self.assertIs(accepts(("formula",) + stuck + (right,), ((0, ((0, 1),)),)), False)

    def test_great_and_deep_formulas(self):
        deep = ("told", 0)
        for _ in range(59):
            deep = ("sum", (), deep)
        things = (PLAIN, WHOLE, (0,), (1,))
        self.assertIs(accepts(("no formula",) + things + (deep,), FLIPS), True)
        self.assertIs(accepts(("no formula",) + things + (("sum", (), deep),), FLIPS), False)
        wide = ("told", 0)
        for _ in range(20):
            wide = ("times", wide, wide)
        self.assertIs(accepts(("no formula",) + things + (wide,), FLIPS), False)


class TablesAndEffects(unittest.TestCase):
    def test_drawn(self):
        for seed in range(40):
            source = random.Random(seed)
            graph = drawn_graph(source, source.randint(1, 4), most_lots=3)
            model = some_model(graph, [source.choice((2, 3)) for _ in graph[0]], [2] * len(graph[2]), seed, zeros=seed % 2 == 0)
            lot = source.choice(lots_of(len(graph[0])))
            rows = table(model, lot)
            self.assertIs(accepts(("table", model, lot, rows), ()), True)
            deeds, asked = drawn_asked(source, len(graph[0]))
            chances = effect(model, deeds, asked)
            self.assertIs(accepts(("effect", model, deeds, asked, chances), ()), True)
            for claim in (("table", model, lot, rows), ("effect", model, deeds, asked, chances)):
                told = claim[-1]
                for paper in (None, [], "", 0, False, set(), {}, ((),), claim):
                    self.assertIs(accepts(claim, paper), False)
                at = source.randrange(len(told))
                for one in (pair(Fraction(*told[at]) / 2 + Fraction(1, 5)), (2 * told[at][0], 2 * told[at][1]), list(told[at]), 1):
                    if one != told[at]:
                        self.assertIs(accepts(claim[:-1] + (told[:at] + (one,) + told[at + 1:],), ()), False)
                self.assertIs(accepts(claim[:-1] + (told[:-1],), ()), False)
                self.assertIs(accepts(claim[:-1] + (told + told[:1],), ()), False)


class Chances(unittest.TestCase):
    def test_by_hand(self):
        things = BOUNDED
        self.assertIs(accepts(("least",) + things + ((3, 8),), (WEIGHTS, SHARES)), True)
        # The shares show 3/8, and none that are less; the weights are met there alone.
        for chance in ((1, 4), (7, 8), (1, 2), (6, 16), (3, -8)):
            self.assertIs(accepts(("least",) + things + (chance,), (WEIGHTS, SHARES)), False)
        self.assertIs(accepts(("greatest",) + things + ((3, 8),), (WEIGHTS, SHARES)), False)
        self.assertIs(accepts(("met",) + things + ((3, 8),), WEIGHTS), True)
        self.assertIs(accepts(("met",) + things + ((3, 8),), (WEIGHTS, SHARES)), False)
        self.assertIs(accepts(("least",) + things + ((3, 8),), WEIGHTS), False)
        # All of it shared out by another equation: 1 to all and - 1 to what is none of both.
        other = ((1, 1), (((-1, 1), (-1, 1), (-1, 1), (0, 1)),))
        self.assertIs(accepts(("least",) + things + ((3, 8),), (WEIGHTS, other)), True)
        for shares in (((1, 1), other[1]), ((0, 1), other[1]), ((1, 1), SHARES[1]), (SHARES[0], ()), (SHARES[0], SHARES[1] * 2),
                       (SHARES[0], (SHARES[1][0][:3],)), (SHARES[0], (SHARES[1][0] + ((0, 1),),)), ((0, 2), SHARES[1]),
                       ((-1, 1), (((1, 1), (1, 1), (1, 1), (2, 1)),))):
            found = accepts(("least",) + things + ((3, 8),), (WEIGHTS, shares))
            self.assertIs(found, shows(("least",) + things + ((3, 8),), (WEIGHTS, shares)))

    def test_shares_that_stay_below_but_are_worth_less(self):
        low = ((-1, 8), (((0, 1), (0, 1), (0, 1), (1, 1)),))
        for chance in ((3, 8), (1, 4)):
            self.assertIs(accepts(("least",) + BOUNDED + (chance,), (WEIGHTS, low)), False)
        # Worth more than the least one by a given that is above a cost.
        high = ((1, 8), (((0, 1), (0, 1), (0, 1), (1, 1)),))
        for chance in ((3, 8), (1, 2)):
            for weights in (WEIGHTS, certify_between(*BOUNDED, (1, 2))[1]):
                self.assertIs(accepts(("least",) + BOUNDED + (chance,), (weights, high)), False)

    def test_types_of_chance_0_and_told_twice(self):
        claim = ("met",) + BOUNDED + ((3, 8),)
        zero = ((0, 1),)
        for weights in (WEIGHTS[:2] + ((((1,), (0, 0)), (1, 16)),) * 2 + WEIGHTS[3:],
                        WEIGHTS[:1] + ((((0,), (0, 1)),) + zero,) + WEIGHTS[1:], WEIGHTS + WEIGHTS[-1:], WEIGHTS[::-1], WEIGHTS[:-1],
                        list(WEIGHTS), WEIGHTS[:3] + ((((1,), (0, 1)), (6, 16)),), WEIGHTS[:3] + ((((True,), (0, 1)), (3, 8)),),
                        WEIGHTS[:3] + ((((1,), (False, 1)), (3, 8)),), WEIGHTS[:3] + ([((1,), (0, 1)), (3, 8)],)):
            self.assertIs(accepts(claim, weights), False)
            self.assertIs(accepts(("least",) + claim[1:], (weights, SHARES)), False)

    def test_drawn(self):
        wide = 0
        for model, graph, sizes, told, tables, question in drawn_programs(97, 60, most_types=32):
            things = (graph, sizes, told, tables, question)
            own = pair(effect_at(model, question))
            weights = weights_of_model(model)
            self.assertIs(accepts(("met",) + things + (own,), weights), True)
            ends = certify_bounds(*things)
            for (claim, paper), (other, another) in (ends, ends[::-1]):
                self.assertIs(accepts(claim, paper), True)
                self.assertIs(accepts(("met",) + claim[1:], paper[0]), True)
                self.assertIs(accepts(("met",) + claim[1:], paper), False)
                if claim[-1] != other[-1]:
                    wide += 1
                    for mixed in (another, (paper[0], another[1]), (another[0], paper[1])):
                        self.assertIs(accepts(claim, mixed), False)
                        self.assertIs(accepts(claim[:-1] + other[-1:], mixed), False)
                    self.assertIs(accepts((other[0],) + claim[1:], paper), False)
                    self.assertIs(accepts(claim[:-1] + (own,), paper), own == claim[-1])
        self.assertGreater(wide, 10)

    def test_what_bounds_refuse_is_no_claim(self):
        model = some_model(TRIAL, (2, 2, 2), (2,), 3)
        question = ((1,), (2,), (0, 0))
        weights = weights_of_model(model)
        rows = (table(model, (0, 1, 2)),)
        own = pair(effect_at(model, question))
        right = ("met", TRIAL, (2, 2, 2), ((0, 1, 2),), rows, question, own)
        self.assertIs(accepts(right, weights), True)
        # z is in no told lot; told alone, the part in the hidden lot is as it was.
        inner = ("met", TRIAL, (2, 2, 2), ((1, 2),), (table(model, (1, 2)),), question, own)
        self.assertIs(accepts(inner, weights), False)
        self.assertIs(accepts(inner[:3] + (((1, 2), (0,)), inner[4] + (table(model, (0,)),)) + inner[5:], weights), True)
        # Another hidden lot, or none.
        for graph in (TRIAL[:2] + (((0, 1), (1, 2)),), TRIAL[:2] + ((),)):
            self.assertIs(accepts(("met", graph) + right[2:], weights), False)
        # A chance 0, with weights that tell the tables.
        zero = (BOW, (2, 2), WHOLE, (((1, 2), (0, 1), (1, 4), (1, 4)),), ((0,), (1,), (0, 0)))
        sure = ((((0,), (0, 0)), (1, 2)), (((1,), (0, 0)), (1, 4)), (((1,), (0, 1)), (1, 4)))
        self.assertIs(accepts(("met",) + zero + ((1, 1),), sure), False)
        near = (BOW, (2, 2), WHOLE, (((1, 4), (1, 4), (1, 4), (1, 4)),), ((0,), (1,), (0, 0)))
        self.assertIs(accepts(("met",) + near + ((3, 4),), ((((0,), (0, 0)), (1, 4)), (((0,), (1, 0)), (1, 4))) + sure[1:]), True)
        # More than 256 types.
        flat = ((1, 3),) * 4 + ((1, 3),) * 4 + ((1, 3),) * 4
        few = (BOW, (3, 4), ((0,),), (flat,), ((), (0,), (0,)))
        shares = tuple((((x,), (0, 0, 0)), (1, 3)) for x in range(3))
        self.assertIs(accepts(("met",) + few + ((1, 3),), shares), True)
        many = (BOW, (4, 4), ((0,),), (((1, 4),) * 16,), ((), (0,), (0,)))
        shares = tuple((((x,), (0, 0, 0, 0)), (1, 4)) for x in range(4))
        self.assertIs(accepts(("met",) + many + ((1, 4),), shares), False)

    def test_tables_of_no_model(self):
        graph = (("a", "x", "y"), (), ((1, 2),))
        weights = ((((0,), (0,)), (1, 2)), (((1,), (1,)), (1, 2)))
        # a hangs on x, or isn't 1 everywhere; nothing of the hidden lot is told.
        for rows, right in ((((1, 3), (1, 3), (1, 4), (1, 4), (2, 3), (2, 3), (3, 4), (3, 4)), False),
                            (((1, 3),) * 4 + ((2, 3),) * 4, True), (((1, 3),) * 4 + ((1, 3),) * 4, False)):
            claim = ("met", graph, (2, 2, 2), ((0,),), (rows,), ((), (1,), (0,)), (1, 2))
            self.assertIs(accepts(claim, weights), right)

    def test_a_type_for_each_state_of_no_told_part(self):
        graph = (("a", "x", "y"), ((0, 1), (1, 2)), ((1, 2),))
        model = some_model(graph, (2, 2, 2), (3,), 7)
        question = ((1,), (2,), (0, 0))
        for kind, chance in type_chances(model).items():
            self.assertGreater(chance, 0)
            claim = ("met", graph, (2, 2, 2), ((0,),), (table(model, (0,)),), question, (int(kind[1][0] == 0), 1))
            self.assertIs(accepts(claim, ((kind, (1, 1)),)), True)

    def test_settings_of_deeds_and_asked(self):
        # All of what can be asked of a model, met by its own types.
        model = some_model(BOW, (2, 3), (3,), 6)
        weights = weights_of_model(model)
        tables = (table(model, (0, 1)), table(model, (1,)))
        for deeds, asked in (((0,), (1,)), ((), (0, 1)), ((1,), (0,)), ((), (1,))):
            sizes = (2, 3)
            own = effect(model, deeds, asked)
            for row, chance in zip(settings([sizes[one] for one in deeds + asked]), own):
                claim = ("met", BOW, sizes, ((0, 1), (1,)), tables, (deeds, asked, row), chance)
                self.assertIs(accepts(claim, weights), True)


if __name__ == "__main__":
    unittest.main()
