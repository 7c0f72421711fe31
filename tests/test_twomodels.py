"""Hedges, modes and two models: points D1 to D5, and the interface of causaleffects.twomodels."""

import random
import unittest
from fractions import Fraction
from itertools import combinations, product

from causaleffects.errors import (Identified, InvalidAsked, InvalidGraph, InvalidHedges, InvalidLot, InvalidTold, TooMany)
from causaleffects.identify import is_identified, stuck
from causaleffects.models import effect, is_positive, table
from causaleffects.text import read_model, show_model
from causaleffects.twomodels import is_hedge, modes, two_models
from helpers import BOW, DOOR, EIGHT, LONE, PAIRS, PLAIN, SEEN, WRONG, bends, q_at, refusal, settings
from looks import (drawn_asked, drawn_graph, drawn_questions, drawn_told, hedges_by_look, is_joined, lots_of,
                   needed_by_closure)

# Three ways round to d, each by a hidden cause of its own: a, b and c may or may not be in a hedge of d.
FAN = (("a", "b", "c", "d"), ((0, 3), (1, 3), (2, 3)), ((0, 3), (1, 3), (2, 3)))
SIX = (EIGHT[:6], tuple((at, 5) for at in range(5)), tuple((at, 5) for at in range(5)))
LONE_PAIR = (("x", "y"), (), ())
NO_LOTS = WRONG + ((1, 0), (0, 0), (3,), [0], 0, "x", (True,), ((0,),), (-1,))


def counts_by_look(small, hedges):
    """The modes, from all lots of indexes of hedges."""
    counts = {}
    for row in product((0, 1), repeat=len(hedges)):
        union = tuple(sorted(set(small).union(*(hedge for hedge, on in zip(hedges, row) if on))))
        counts[union] = counts.get(union, 0) + (-1) ** sum(row)
    return tuple((lot, counts[lot]) for lot in sorted(counts) if counts[lot])


def bits_of(graph, told, deeds, asked):
    """How many bits the models of D3 have, which is the least number of bits in a setting."""
    small, hedges = stuck(graph, told, deeds, asked)
    leaning = set().union(*(lot for lot, _ in counts_by_look(small, hedges)))
    sending = needed_by_closure(graph, deeds, asked)
    return sum(max(1, (one in leaning) + (one in sending)) for one in range(len(graph[0])))


class Hedges(unittest.TestCase):
    def test_by_hand(self):
        self.assertIs(is_hedge(BOW, (1,), (0, 1), (0, 1)), True)
        self.assertIs(is_hedge(PLAIN, (1,), (0, 1), (0, 1)), False)
        # It has to be greater, and within the lot; the small one has to be within it.
        self.assertIs(is_hedge(BOW, (1,), (1,), (0, 1)), False)
        self.assertIs(is_hedge(BOW, (1,), (0, 1), (1,)), False)
        self.assertIs(is_hedge(BOW, (0,), (0, 1), (0, 1)), False)
        self.assertIs(is_hedge(BOW, (), (0, 1), (0, 1)), False)
        self.assertIs(is_hedge(BOW, (), (), (0, 1)), False)
        self.assertIs(is_hedge(BOW, (0, 1), (1,), (0, 1)), False)
        self.assertIs(is_hedge(within=(0, 1), great=(0, 1), small=(1,), graph=BOW), True)
        self.assertIs(is_hedge(FAN, (3,), (0, 1, 3), (0, 1, 2, 3)), True)
        self.assertIs(is_hedge(FAN, (3,), (0, 1, 3), (0, 2, 3)), False)
        self.assertIs(is_hedge(DOOR, (2,), (0, 2), (0, 1, 2)), False)
        # a, c and d are joined; a is an ancestor of d by b alone.
        way = (("a", "b", "c", "d"), ((0, 1), (1, 3), (2, 3)), ((0, 2), (2, 3)))
        self.assertIs(is_hedge(way, (3,), (0, 2, 3), (0, 1, 2, 3)), False)
        self.assertIs(is_hedge(way, (3,), (2, 3), (0, 1, 2, 3)), True)

    def test_the_small_lot_has_to_be_joined(self):
        graph = (("a", "b", "c"), ((0, 1), (0, 2)), ((0, 1), (0, 2)))
        self.assertIs(is_hedge(graph, (1, 2), (0, 1, 2), (0, 1, 2)), False)
        joined = (("a", "b", "c"), ((0, 1), (0, 2)), ((0, 1), (0, 2), (1, 2)))
        self.assertIs(is_hedge(joined, (1, 2), (0, 1, 2), (0, 1, 2)), True)

    def test_against_walks(self):
        source = random.Random(41)
        found = 0
        for at in range(30):
            graph = drawn_graph(source, 1 + at % 5, most_lots=9)
            every = lots_of(len(graph[0]))
            for within in source.sample(every, min(6, len(every))) + [every[-1]]:
                for small in source.sample(every, min(8, len(every))):
                    hedges = hedges_by_look(graph, small, within)
                    for great in every:
                        self.assertIs(is_hedge(graph, small, great, within), great in hedges)
                    found += len(hedges)
        self.assertGreater(found, 60)

    def test_eight_variables(self):
        full = (EIGHT, PAIRS, PAIRS)
        for lot in lots_of(8):
            self.assertIs(is_hedge(full, (7,), lot, tuple(range(8))), 7 in lot and len(lot) > 1)

    def test_wrong_ones(self):
        for lot in NO_LOTS:
            for rest in (((0, 1), (0, 1)), (None, (5,))):
                self.assertIs(refusal(InvalidLot, is_hedge, DOOR, lot, *rest).given, lot)
                self.assertIs(refusal(InvalidLot, is_hedge, within=rest[1], great=rest[0], small=lot, graph=DOOR).given, lot)
            self.assertIs(refusal(InvalidLot, is_hedge, DOOR, (0,), lot, (0, 1)).given, lot)
            self.assertIs(refusal(InvalidLot, is_hedge, DOOR, (0,), lot, None).given, lot)
            self.assertIs(refusal(InvalidLot, is_hedge, DOOR, (0,), (0, 1), lot).given, lot)
        for graph in WRONG + (list(BOW), (EIGHT + ("i",), (), ()), (EIGHT, (), tuple(sorted(PAIRS + ((0, 1, 2),))))):
            self.assertIs(refusal(InvalidGraph, is_hedge, graph, (5,), None, ()).given, graph)


class Modes(unittest.TestCase):
    def test_by_hand(self):
        self.assertEqual(modes(BOW, (1,), ((0, 1),)), (((0, 1), -1), ((1,), 1)))
        self.assertEqual(modes(BOW, (1,), ()), (((1,), 1),))
        self.assertEqual(modes(hedges=(), small=(0,), graph=LONE), (((0,), 1),))
        self.assertEqual(modes(FAN, (3,), ((0, 3), (1, 3))), (((0, 1, 3), 1), ((0, 3), -1), ((1, 3), -1), ((3,), 1)))

    def test_counts_above_and_below_and_at_0(self):
        # The greatest one comes by itself, - 1, and by three of the others with it: those fall out.
        self.assertEqual(modes(FAN, (3,), ((0, 3), (0, 1, 3))), (((0, 3), -1), ((3,), 1)))
        # Three that are equal two by two in their unions: the whole comes by three pairs and by all three.
        pairs = ((0, 1, 3), (0, 2, 3), (1, 2, 3))
        self.assertEqual(modes(FAN, (3,), pairs), (
            ((0, 1, 2, 3), 2), ((0, 1, 3), -1), ((0, 2, 3), -1), ((1, 2, 3), -1), ((3,), 1)))

    def test_twice_and_in_another_order(self):
        self.assertEqual(modes(BOW, (1,), ((0, 1), (0, 1))), (((0, 1), -1), ((1,), 1)))
        for many in range(1, 7):
            self.assertEqual(modes(BOW, (1,), ((0, 1),) * many), (((0, 1), -1), ((1,), 1)))
        hedges = ((0, 3), (1, 3), (0, 2, 3), (0, 1, 3))
        told = modes(FAN, (3,), hedges)
        self.assertEqual(modes(FAN, (3,), hedges[::-1]), told)
        self.assertEqual(modes(FAN, (3,), hedges + hedges[:2]), told)

    def test_against_all_lots_of_indexes(self):
        source = random.Random(42)
        every = hedges_by_look(FAN, (3,), (0, 1, 2, 3))
        self.assertEqual(len(every), 7)
        for many in range(7):
            for hedges in combinations(every, many):
                self.assertEqual(modes(FAN, (3,), hedges), counts_by_look((3,), hedges))
        seen = set()
        graphs = [drawn_graph(source, 5, most_lots=10) for _ in range(60)] + [SIX] * 3
        for graph in graphs:
            count = len(graph[0])
            for small in lots_of(count)[1:]:
                hedges = hedges_by_look(graph, small, tuple(range(count)))
                for _ in range(min(len(hedges), 20)):
                    some = tuple(source.choice(hedges) for _ in range(source.randint(0, 6)))
                    told = modes(graph, small, some)
                    self.assertEqual(told, counts_by_look(small, some))
                    self.assertIn((small, 1), told)
                    seen |= {count for _, count in told}
        self.assertTrue({-2, -1, 1, 2} <= seen, seen)

    def test_the_modes_within_a_told_lot_count_0_together(self):
        for graph, told, deeds, asked in drawn_questions(43, 300, 6):
            found = stuck(graph, told, deeds, asked)
            if found:
                told_modes = modes(graph, *found)
                for lot in told:
                    if set(found[0]) <= set(lot):
                        self.assertEqual(sum(count for mode, count in told_modes if set(mode) <= set(lot)), 0)
                inner = needed_by_closure(graph, deeds, asked)
                self.assertEqual([one for one in told_modes if set(one[0]) <= set(inner)], [(found[0], 1)])

    def test_wrong_small_ones(self):
        for small in NO_LOTS + ((), (0, 1), (1, 2), (0, 1, 2)):
            for hedges in ((), ((0, 2),), None):
                self.assertIs(refusal(InvalidLot, modes, DOOR, small, hedges).given, small)
                self.assertIs(refusal(InvalidLot, modes, hedges=hedges, small=small, graph=DOOR).given, small)
        self.assertEqual(modes(DOOR, (0, 2), ()), (((0, 2), 1),))
        for graph in WRONG + (list(DOOR), DOOR[:2]):
            self.assertIs(refusal(InvalidGraph, modes, graph, (5,), None).given, graph)

    def test_hedges_that_are_wrong_as_a_whole(self):
        for hedges in WRONG + ([(0, 1)], "hedges", {(0, 1): 1}, {(0, 1)}, ((0, 1),) * 7, (None,) * 7, (0, 1) * 4):
            if type(hedges) is tuple and len(hedges) < 7:
                continue
            self.assertIsNone(refusal(InvalidHedges, modes, BOW, (1,), hedges).index)
            self.assertIsNone(refusal(InvalidHedges, modes, hedges=hedges, small=(1,), graph=BOW).index)

    def test_the_first_wrong_hedge(self):
        every = lots_of(4)
        right = hedges_by_look(FAN, (3,), (0, 1, 2, 3))
        for one in WRONG + tuple(every) + ((3, 0), [0, 3], (0, 4), (False, 3), ((0, 3),), "ad"):
            if any(one is hedge for hedge in every) and one in right:
                self.assertEqual(modes(FAN, (3,), (one,)), counts_by_look((3,), (one,)))
            else:
                self.assertEqual(refusal(InvalidHedges, modes, FAN, (3,), (one,)).index, 0)
                self.assertEqual(refusal(InvalidHedges, modes, FAN, (3,), ((0, 3), one, None)).index, 1)
                self.assertEqual(refusal(InvalidHedges, modes, FAN, (3,), ((0, 3),) * 5 + (one,)).index, 5)
        for value in bends((0, 1, 3)):
            self.assertEqual(refusal(InvalidHedges, modes, FAN, (3,), (value,)).index, 0)
            self.assertEqual(refusal(InvalidHedges, modes, FAN, (3,), ((0, 3), value, (0, 1))).index, 1)
        # What is a hedge of d is none of a.
        self.assertEqual(refusal(InvalidHedges, modes, FAN, (0,), ((0, 3),)).index, 0)


class TwoModels(unittest.TestCase):
    def look(self, graph, told, deeds, asked):
        """Two models are what they have to be; None if they may be too great, and are."""
        try:
            pair = two_models(graph, told, deeds, asked)
        except TooMany as found:
            self.assertGreater(found.given, 64)
            return None
        self.assertIs(type(pair), tuple)
        one, two = pair
        for model in (one, two):
            self.assertEqual(model[0], graph)
            self.assertIs(is_positive(model), True)
        self.assertEqual(one[1], two[1])
        for lot in told:
            self.assertEqual(table(one, lot), table(two, lot))
        rows = len(settings([one[1][at] for at in asked]))
        first, second = effect(one, deeds, asked), effect(two, deeds, asked)
        for start in range(0, len(first), rows):
            self.assertNotEqual(first[start:start + rows], second[start:start + rows])
        return pair

    def test_by_hand(self):
        one, two = self.look(BOW, ((0, 1),), (0,), (1,))
        self.assertEqual(two_models(BOW, ((0, 1),), (0,), (1,)), (one, two))
        self.assertEqual(two_models(asked=(1,), deeds=(0,), told=((0, 1),), graph=BOW), (one, two))
        self.assertNotEqual(table(one, (1,)), table(two, (1,)))
        # No told lot has y at all.
        self.look(PLAIN, ((0,),), (0,), (1,))
        self.look(LONE_PAIR, ((0,),), (), (1,))
        self.look(PLAIN, ((0,),), (), (0, 1))
        self.look(DOOR, ((0, 2),), (0,), (2,))

    def test_tables_by_sums(self):
        one, two = self.look(FAN, ((0, 1, 2, 3), (0, 3)), (0, 1, 2), (3,))
        for lot in ((0, 1, 2, 3), (0, 3), (3,)):
            for at, setting in enumerate(settings(one[1])):
                if at % 5 == 0:
                    ones, twos = q_at(one, lot, setting), q_at(two, lot, setting)
                    self.assertEqual((ones.numerator, ones.denominator), table(one, lot)[at])
                    if lot != (3,):
                        self.assertEqual(ones, twos)

    def test_they_can_be_shown_and_read(self):
        for model in self.look(BOW, ((0, 1), (0,)), (0,), (1,)):
            self.assertEqual(read_model(show_model(model)), model)

    def test_drawn_ones(self):
        tried = 0
        for graph, told, deeds, asked in drawn_questions(44, 900, 5):
            if not is_identified(graph, told, deeds, asked):
                self.assertIsNotNone(self.look(graph, told, deeds, asked))
                tried += 1
        self.assertGreater(tried, 150)

    def test_graphs_of_six(self):
        source = random.Random(45)
        tried = great = several = 0
        for _ in range(300):
            graph = drawn_graph(source, 6, most_lots=9)
            told = drawn_told(source, 6)
            deeds, asked = drawn_asked(source, 6)
            if not is_identified(graph, told, deeds, asked):
                if self.look(graph, told, deeds, asked) is None:
                    self.assertGreater(bits_of(graph, told, deeds, asked), 10)
                    great += 1
                else:
                    several += len(stuck(graph, told, deeds, asked)[1]) > 1
                tried += 1
        self.assertGreater(tried, 80)
        self.assertLess(great, tried // 4)
        self.assertGreater(several, 2)

    def test_experiments(self):
        # The effect on d is stuck in each experiment by the variables that are not set there.
        every = hedges_by_look(FAN, (3,), (0, 1, 2, 3))
        for many in (1, 2, 3):
            for told in combinations(every, many):
                self.look(FAN, told, (0, 1, 2), (3,))
        self.look(FAN, tuple(every[:6]), (0, 1, 2), (3,))
        self.look(FAN, tuple(every[1:]), (0, 1, 2), (3,))
        self.look(FAN, ((0, 3), (0, 1, 2), (1, 2), (0,)), (1,), (3,))

    def test_modes_that_count_2(self):
        pairs = ((0, 1, 3), (0, 2, 3), (1, 2, 3))
        self.assertEqual(modes(FAN, (3,), pairs)[0], ((0, 1, 2, 3), 2))
        self.look(FAN, pairs, (0, 1, 2), (3,))
        # Two such at once, and hidden lots of three: unions of three pairs and of all.
        five = (("a", "b", "c", "d", "e"), ((0, 4), (1, 4), (2, 4), (3, 4)), ((0, 1, 4), (1, 2, 4), (2, 3, 4), (3, 4)))
        told = ((0, 1, 4), (0, 2, 4), (1, 2, 4), (0, 1, 3, 4))
        self.assertIn(2, [abs(count) for _, count in modes(five, (4,), told)])
        self.look(five, told, (0, 1, 2, 3), (4,))
        told = ((0, 1, 5), (0, 2, 5), (1, 2, 5), (3, 4, 5), (0, 1, 2, 3, 4))
        self.assertLessEqual({-2, -1, 1, 2}, {count for _, count in modes(SIX, (5,), told[:4])})
        self.look(SIX, told, (0, 1, 2, 3, 4), (5,))

    def test_long_trees_and_chains(self):
        # One hedge of all six: joined by a chain of hidden causes, leading to f by a chain of arrows.
        chain = tuple((at, at + 1) for at in range(5))
        self.look((EIGHT[:6], chain, chain), ((0, 1, 2, 3, 4, 5),), (4,), (5,))
        self.look((EIGHT[:6], chain, ((0, 5), (1, 4), (1, 5), (2, 4), (3, 4))), (tuple(range(6)),), (0, 1), (5,))
        self.look((EIGHT[:6], chain, ((0, 1, 2, 3, 4, 5),)), (tuple(range(6)),), (0, 1, 2, 3, 4), (5,))
        full = tuple(combinations(range(6), 2))
        self.look((EIGHT[:6], full, full), (tuple(range(6)), (0, 5), (1, 2, 3, 4, 5)), (0, 1, 2, 3, 4), (5,))

    def test_several_asked_and_districts(self):
        graph = (("a", "b", "c", "d"), ((0, 1), (2, 3)), ((0, 1), (2, 3)))
        self.look(graph, ((0, 1, 2, 3),), (0, 2), (1, 3))
        self.look(graph, ((0, 1, 2, 3), (1,)), (0, 2), (1, 3))
        self.look(graph, ((0, 1), (3,)), (0,), (1, 2, 3))
        joined = (("x", "y", "z"), ((0, 1), (0, 2)), ((0, 1), (1, 2)))
        self.assertTrue(is_joined(joined, (1, 2)))
        self.look(joined, ((0, 1, 2),), (0,), (1, 2))
        self.look(joined, ((0, 1, 2), (0, 2), (1,)), (0,), (1, 2))

    def test_what_is_needed_ahead_of_what_is_asked(self):
        # The hedge is of m; what leans there is sent on to y by way of two more.
        graph = (("x", "m", "n", "y"), ((0, 1), (1, 2), (2, 3)), ((0, 1),))
        self.look(graph, ((0, 1, 2, 3),), (0,), (3,))
        self.look(graph, ((0, 1, 2, 3), (2, 3), (0,)), (0,), (2, 3))

    def test_eight_variables(self):
        arrows = ((0, 1), (1, 7), (2, 7), (3, 4), (4, 7), (5, 6), (6, 7))
        graph = (EIGHT, arrows, ((0, 1), (0, 7), (1, 7), (2, 7), (3, 5)))
        self.look(graph, (tuple(range(8)), (0, 1, 7)), (0, 1, 2, 4, 6), (7,))
        wide = (EIGHT, tuple((at, 7) for at in range(7)), PAIRS)
        self.look(wide, (tuple(range(8)),), tuple(range(7)), (7,))

    def test_what_is_sent(self):
        # As D4 reckons it: the mean of - 1 to what is sent by what is asked, the last bit of each value and for the small
        # lot the one ahead of it too, is 0 in the second model, and in the first one the same above 0 for all deeds.
        tried = 0
        # Two that send to one child, and a third one that leads to either of both.
        join = (("a", "b", "c", "d"), ((0, 1), (0, 2), (1, 3), (2, 3)), ((0, 1),))
        several = [(join, (told,), (), asked) for told in lots_of(4)[1:-1] for asked in lots_of(4)[1:]]
        for graph, told, deeds, asked in several + list(drawn_questions(46, 500, 5)):
            found = stuck(graph, told, deeds, asked)
            if found:
                one, two = self.look(graph, told, deeds, asked)
                sizes = [one[1][at] for at in asked]
                signs = []
                for setting in settings(sizes):
                    sent = sum(worth % 2 + (worth // 2 if at in found[0] else 0) for at, worth in zip(asked, setting))
                    signs.append((-1) ** sent)
                for model, above in ((one, True), (two, False)):
                    rows = [Fraction(*chance) for chance in effect(model, deeds, asked)]
                    means = {sum(sign * chance for sign, chance in zip(signs, rows[start:start + len(signs)]))
                             for start in range(0, len(rows), len(signs))}
                    self.assertEqual(len(means), 1)
                    self.assertEqual(means.pop() > 0, above)
                tried += 1
        self.assertGreater(tried, 80)

    def test_a_choice_that_is_small_enough(self):
        # Where a chain of pairs joins the hedge too, it need not be joined by the one lot of all.
        arrows = tuple((at, 7) for at in range(7))
        chain = ((0, 2), (1, 2), (1, 3), (3, 4), (4, 5), (5, 6), (6, 7))
        both = (EIGHT, arrows, (tuple(range(8)),) + chain)
        self.assertIsNotNone(self.look(both, (tuple(range(8)),), tuple(range(7)), (7,)))

    def test_how_many_chances_there_can_be(self):
        # Each of a to g has one pair with h, so there is just one tree for each mode, and h has all its states.
        star = (EIGHT, tuple((at, 7) for at in range(7)), tuple((at, 7) for at in range(7)))
        source = random.Random(47)
        every = [lot + (7,) for lot in lots_of(7)[1:]]
        fine = great = 0
        for _ in range(40):
            told = tuple(source.sample(every, source.randint(4, 6)))
            counted = modes(star, (7,), stuck(star, told, tuple(range(7)), (7,))[1])
            numbers = []
            for sign in (1, -1):
                states = [max(1, 2 * sum(at in lot for lot, count in counted if count * sign > 0)) for at in range(7)]
                rows = 2 ** 7
                for many in states:
                    rows *= many
                numbers.append(4 * rows + sum(2 * many for many in states))
            over = [number for number in numbers if number > 100000]
            if over:
                self.assertEqual(refusal(TooMany, two_models, star, told, tuple(range(7)), (7,)).given, over[0])
                great += 1
            elif fine < 4:
                one, two = two_models(star, told, tuple(range(7)), (7,))
                self.assertEqual([sum(len(row) for rows in model[3] for row in rows) for model in (one, two)], numbers)
                fine += 1
        self.assertEqual(fine, 4)
        self.assertGreater(great, 4)

    def test_too_many_only_where_the_models_may_be_too_great(self):
        # Eight variables in one hidden lot: a tree of seven pairs has 128 rows of signs there, for whatever choice.
        lot = (EIGHT, tuple((at, 7) for at in range(7)), (tuple(range(8)),))
        self.assertEqual(refusal(TooMany, two_models, lot, (tuple(range(8)),), tuple(range(7)), (7,)).given, 128)
        self.assertIsNotNone(self.look(lot, (tuple(range(1, 8)),), tuple(range(7)), (7,)))
        # Six variables of four values each: 4,096 settings.
        six = (EIGHT[:6], (), tuple((at, at + 1) for at in range(5)))
        self.assertEqual(refusal(TooMany, two_models, six, ((0,),), (), tuple(range(6))).given, 4096)
        five = (EIGHT[:5], (), tuple((at, at + 1) for at in range(4)))
        self.assertIsNotNone(self.look(five, ((0,),), (), tuple(range(5))))
        # Just 1,024 settings among eight variables, and one bit more.
        eight = (EIGHT, ((5, 6), (6, 7)), ((6, 7),))
        self.assertIsNotNone(self.look(eight, ((0, 1, 2, 3, 4, 5),), (), (6, 7)))
        more = (EIGHT, ((5, 6), (6, 7)), ((5, 6), (6, 7)))
        self.assertEqual(refusal(TooMany, two_models, more, ((0, 1, 2, 3, 4),), (), (5, 6, 7)).given, 2048)


class Refused(unittest.TestCase):
    def test_identified(self):
        for graph, told, deeds, asked in ((BOW, ((0, 1), (1,)), (0,), (1,)), (DOOR, SEEN, (0,), (2,)), (LONE, ((0,),), (), (0,))):
            refusal(Identified, two_models, graph, told, deeds, asked)
            refusal(Identified, two_models, asked=asked, deeds=deeds, told=told, graph=graph)
        # Eight variables in one district, all asked: too great for models, but told.
        refusal(Identified, two_models, (EIGHT, (), PAIRS), (tuple(range(8)),), (), tuple(range(8)))

    def test_graphs(self):
        for graph in WRONG + (list(BOW), BOW[:2], (EIGHT + ("i",), (), ()), (EIGHT, (), PAIRS + ((6, 7, 8),))):
            self.assertIs(refusal(InvalidGraph, two_models, graph, (), (5,), ()).given, graph)
            self.assertIs(refusal(InvalidGraph, two_models, asked=None, deeds=None, told=None, graph=graph).given, graph)

    def test_told(self):
        for told, index in (((), None), (None, None), ([(0, 1)], None), (((0,),) * 7, None), (((),), 0), (((0,), (0,)), 1),
                            (((2,),), 0), ((None,), 0)):
            for deeds, asked in (((0,), (1,)), ((5,), ()), (None, None)):
                self.assertEqual(refusal(InvalidTold, two_models, BOW, told, deeds, asked).index, index)

    def test_what_is_asked(self):
        for lot in WRONG + ((1, 0), (3,), [0], (True,), 0):
            for deeds, asked in ((lot, (1,)), (lot, ()), ((0,), lot), ((), lot)):
                self.assertIs(refusal(InvalidLot, two_models, BOW, ((0, 1),), deeds, asked).given, lot)
        for deeds in lots_of(2):
            for asked in lots_of(2):
                if not asked or set(asked) & set(deeds):
                    self.assertIs(refusal(InvalidAsked, two_models, BOW, ((0, 1),), deeds, asked).given, asked)


if __name__ == "__main__":
    unittest.main()
