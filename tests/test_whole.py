"""Over the whole program: graphs taken through all its parts, which agree with each other as points A to G say."""

import copy
import unittest
from fractions import Fraction

from causaleffects.bounds import between, bounds, model_of, papers, types
from causaleffects.certificates import (certify_between, certify_bounds, certify_effect, certify_formula, certify_hedge,
                                        certify_identified, certify_models, certify_table)
from causaleffects.checker import accepts
from causaleffects.desk import Desk
from causaleffects.errors import CausalError, TooMany
from causaleffects.identify import (derivation, formula, formula_along, helpful, is_derivation, is_identified, least_told,
                                    single_lots, stuck)
from causaleffects.models import effect, is_positive, table
from causaleffects.rounds import greatest_hedge, needs, rounds
from causaleffects.text import (read_formula, read_graph, read_lot, read_model, show_formula, show_graph, show_lot,
                                show_model)
from causaleffects.twomodels import is_hedge, two_models
from causaleffects.values import told_effect, value_of
from helpers import BOW, DOOR, EIGHT, SEEN, pair, settings, some_model
from looks import drawn_model, drawn_questions
from responses import drawn_programs, effect_at


def ratio_texts(row):
    """What a row of RATIOs is shown as."""
    return ", ".join(str(above) if below == 1 else f"{above}/{below}" for above, below in row)


class Whole(unittest.TestCase):
    def texts(self, graph, told, model):
        """Read again all tells the same."""
        self.assertEqual(read_graph(show_graph(graph)), graph)
        self.assertEqual(read_model(show_model(model)), model)
        for lot in told:
            self.assertEqual(read_lot(graph, show_lot(graph, lot)), lot)

    def question(self, model, told, deeds, asked):
        """One question, taken through all parts; whether it is identified."""
        graph, sizes = model[0], model[1]
        things = (graph, told, deeds, asked)
        desk = Desk()
        desk.say("model " + show_model(model))
        desk.say("told " + ", ".join(show_lot(graph, lot) for lot in told))
        self.assertEqual(desk.told(), (graph, told))
        pair_text = f"{show_lot(graph, deeds)} on {show_lot(graph, asked)}"
        own = effect(model, deeds, asked)
        self.assertEqual(desk.say("chances " + pair_text), (ratio_texts(own),))
        self.assertIs(accepts(*certify_effect(model, deeds, asked)), True)
        tables = tuple(table(model, lot) for lot in told)
        for lot, rows in zip(told, tables):
            self.assertEqual(certify_table(model, lot), (("table", model, lot, rows), ()))
        identified = is_identified(*things)
        rows = helpful(*things)
        self.assertEqual(tuple(district for district, _ in rows), needs(graph, deeds, asked))
        self.assertEqual(identified, all(indexes for _, indexes in rows))
        self.assertEqual(identified, any(is_identified(graph, tuple(told[at] for at in lot), deeds, asked)
                                         for lot in least_told(*things)))
        self.assertIs(accepts(*certify_identified(*things)), True)
        for district, indexes in rows:
            for at, lot in enumerate(told):
                if set(district) <= set(lot):
                    ends = rounds(graph, lot, district)[-1]
                    self.assertEqual(ends == district, at in indexes)
                    self.assertEqual(greatest_hedge(graph, lot, district), None if at in indexes else ends)
                    self.assertIs(accepts(*certify_hedge(graph, lot, district)), True)
        if identified:
            self.identified(model, things, tables, desk.say("effect " + pair_text), own)
        else:
            self.not_identified(things, desk.say("effect " + pair_text))
        return identified

    def identified(self, model, things, tables, answer, own):
        graph, told, deeds, asked = things
        sizes = model[1]
        given = formula(*things)
        self.assertEqual(read_formula(graph, told, answer[0]), given)
        self.assertEqual(answer, (show_formula(graph, told, given),))
        self.assertTrue(is_derivation(*things, derivation(*things)))
        self.assertEqual(formula_along(*things, derivation(*things)), given)
        self.assertIs(accepts(*certify_formula(*things)), True)
        self.assertEqual(told_effect(graph, sizes, told, tables, deeds, asked), own)
        rows = dict(zip(settings([sizes[one] for one in deeds + asked]), own))
        self.assertEqual(value_of(graph, sizes, told, tables, given),
                         tuple(rows[tuple(setting[one] for one in deeds + asked)] for setting in settings(sizes)))
        self.assertIs(accepts(("told by",) + things + (tuple(range(len(told))),), derivation(*things)), True)
        self.assertIs(accepts(("no formula",) + things + (given,), model), False)
        self.assertIsNone(stuck(*things))

    def not_identified(self, things, answer):
        graph, told, deeds, asked = things
        district, hedges = stuck(*things)
        self.assertEqual(answer, ("not identified: " + show_lot(graph, district),) + tuple(show_lot(graph, one) for one in hedges))
        for lot in told:
            if set(district) <= set(lot):
                self.assertTrue(any(is_hedge(graph, district, one, lot) for one in hedges))
        self.assertEqual(least_told(*things), ())
        self.assertNotIn(True, [lot in single_lots(graph, deeds, asked) for lot in told])
        try:
            one, two = two_models(*things)
        except TooMany:
            return
        self.assertTrue(is_positive(one) and is_positive(two))
        self.assertEqual([table(one, lot) for lot in told], [table(two, lot) for lot in told])
        self.assertNotEqual(effect(one, deeds, asked), effect(two, deeds, asked))
        self.assertIs(accepts(*certify_models(*things)), True)
        if len(graph[2]) == 1 and len(one[2][0]) == len(two[2][0]) == 2:
            self.both_between(one, two, things)

    def both_between(self, one, two, things):
        """Two models alike in all that is told: both effects lie between the bounds, which are unlike so."""
        graph, told, deeds, asked = things
        sizes = one[1]
        tables = tuple(table(one, lot) for lot in told)
        for row, first, second in zip(settings([sizes[at] for at in deeds + asked]), effect(one, deeds, asked),
                                      effect(two, deeds, asked)):
            try:
                least, greatest = bounds(graph, sizes, told, tables, (deeds, asked, row))
            except CausalError:
                return
            for value in (first, second):
                self.assertTrue(Fraction(*least) <= Fraction(*value) <= Fraction(*greatest))
                self.assertIs(accepts(*certify_between(graph, sizes, told, tables, (deeds, asked, row), value)), True)
            if first != second:
                self.assertNotEqual(least, greatest)

    def test_drawn_graphs(self):
        counts = [0, 0]
        for at, (graph, told, deeds, asked) in enumerate(drawn_questions(121, 300, 4, most_lots=4)):
            model = drawn_model(graph, at)
            self.texts(graph, told, model)
            counts[self.question(model, told, deeds, asked)] += 1
        self.assertGreater(min(counts), 20)

    def test_graphs_with_one_hidden_lot(self):
        counts = [0, 0]
        for model, graph, sizes, told, tables, question in drawn_programs(122, 60, most_types=64):
            self.texts(graph, told, model)
            counts[self.question(model, told, question[0], question[1])] += 1
            self.bounded(model, told, tables, question)
        self.assertGreater(min(counts), 5)

    def bounded(self, model, told, tables, question):
        graph, sizes = model[0], model[1]
        things = (graph, sizes, told, tables, question)
        ends = papers(*things)
        self.assertEqual(bounds(*things), (ends[0][0], ends[1][0]))
        own = pair(effect_at(model, question))
        deeds, asked, setting = question
        at = settings([sizes[one] for one in deeds + asked]).index(setting)
        self.assertEqual(effect(model, deeds, asked)[at], own)
        for one in certify_bounds(*things) + (certify_between(*things, own),):
            self.assertIs(accepts(*one), True)
        for chance, weights in ((ends[0][0], ends[0][1]), (ends[1][0], ends[1][1]), (own, between(*things, own))):
            if len(weights) <= 64:
                found = model_of(graph, sizes, told, tables, weights)
                self.assertEqual(tuple(table(found, lot) for lot in told), tables)
                self.assertEqual(effect(found, deeds, asked)[at], chance)
                self.assertEqual(read_model(show_model(found)), found)
        desk = Desk()
        desk.say("model " + show_model(model))
        desk.say("told " + ", ".join(show_lot(graph, lot) for lot in told))
        line = f"bounds {show_lot(graph, deeds)} on {show_lot(graph, asked)}: " + ", ".join(str(worth) for worth in setting)
        self.assertEqual(desk.say(line), (f"{ratio_texts(ends[0][:1])} to {ratio_texts(ends[1][:1])}",))
        if is_identified(graph, told, deeds, asked):
            self.assertEqual((ends[0][0], ends[1][0]), (own, own))
            self.assertEqual(told_effect(graph, sizes, told, tables, deeds, asked)[at], own)

    def test_by_hand(self):
        model = some_model(DOOR, (2, 3, 2), (3,), 5)
        self.assertIs(self.question(model, SEEN, (0,), (2,)), True)
        tables = (table(model, (0, 1, 2)),)
        for row in settings((2, 2)):
            self.bounded(model, SEEN, tables, ((0,), (2,), row))
        model = some_model(BOW, (2, 3), (3,), 5)
        self.assertIs(self.question(model, ((0, 1),), (0,), (1,)), False)
        self.assertEqual(len(types(BOW, (2, 3))), 18)
        for row in settings((2, 3)):
            self.bounded(model, ((0, 1),), (table(model, (0, 1)),), ((0,), (1,), row))

    def test_eight_variables(self):
        arrows = tuple((at, at + 1) for at in range(7))
        model = some_model((EIGHT, arrows, ((2, 4),)), (2,) * 8, (4,), 6)
        told = (tuple(range(8)),)
        self.assertIs(self.question(model, told, (2,), (7,)), True)
        self.bounded(model, told, (table(model, told[0]),), ((2,), (7,), (0, 1)))
        near = some_model((EIGHT, arrows, ((3, 4),)), (2,) * 8, (4,), 6)
        self.assertIs(self.question(near, told, (3,), (7,)), False)
        self.bounded(near, told, (table(near, told[0]),), ((3,), (7,), (0, 1)))


class AgainAndUnchanged(unittest.TestCase):
    def test_asked_again_all_is_the_same(self):
        for model, graph, sizes, told, tables, question in drawn_programs(123, 10, most_types=32):
            things = (graph, sizes, told, tables, question)
            own = pair(effect_at(model, question))
            before = copy.deepcopy((things, model, own))
            for call, given in (
                    (papers, things), (bounds, things), (between, things + (own,)), (types, (graph, sizes)),
                    (certify_bounds, things), (certify_between, things + (own,)),
                    (model_of, things[:4] + (between(*things, own),)), (certify_identified, (graph, told) + question[:2])):
                first = call(*given)
                self.assertEqual(call(*given), first)
                self.assertEqual(call(*copy.deepcopy(given)), first)
            claim, paper = certify_between(*things, own)
            self.assertIs(accepts(claim, paper), True)
            self.assertIs(accepts(claim, paper), True)
            self.assertEqual((things, model, own), before)


if __name__ == "__main__":
    unittest.main()
