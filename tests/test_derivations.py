"""Derivations, and formulas along them: points C2, C5, and the interface of causaleffects.identify."""

import random
import unittest

from causaleffects.errors import InvalidDerivation
from causaleffects.identify import derivation, formula, formula_along, is_derivation, is_identified
from causaleffects.models import effect, table
from causaleffects.text import read_formula, show_formula
from causaleffects.values import value_of
from helpers import BOW, DOOR, EIGHT, LADDER, LONE, PAIRS, SEEN, WRONG, bends, nested, refusal
from looks import (count_parts, depth_of, districts_by_closure, drawn_asked, drawn_graph, drawn_model, drawn_questions,
                   factors_of, is_step_by_closure, needed_by_closure, part_lots, tells_by_look)
from test_values import spread_out

WAY = ((0, ((0, 1, 2), (1,))), (0, ((0, 1, 2), (0, 2), (2,))))
WHOLE = tuple(range(8))


def needs_of(graph, deeds, asked):
    """The districts that an effect needs."""
    return districts_by_closure(graph, needed_by_closure(graph, deeds, asked))


def steps_from(graph, lot, district):
    """All lots to which a step leads from a lot and which have the district."""
    return [part for part in part_lots(lot) if set(district) <= set(part) and is_step_by_closure(graph, lot, part)]


def drawn_lots(source, graph, lot, district, longest):
    """The lots of steps from a lot to a district, as many as can be or just some."""
    lots = [lot]
    while lots[-1] != district:
        steps = steps_from(graph, lots[-1], district)
        if longest:
            most = max(len(part) for part in steps)
            steps = [part for part in steps if len(part) == most]
        lots.append(source.choice(steps))
    return tuple(lots)


def drawn_way(source, graph, told, deeds, asked, longest=False):
    """A derivation, if there is one: each district from any told lot that tells it, by any steps."""
    way = []
    for district in needs_of(graph, deeds, asked):
        indexes = [at for at, lot in enumerate(told) if tells_by_look(graph, lot, district)]
        if not indexes:
            return None
        at = source.choice(indexes)
        way.append((at, drawn_lots(source, graph, told[at], district, longest)))
    return tuple(way)


def is_way_by_closure(graph, told, deeds, asked, way):
    """Whether pairs of indexes and lots are a derivation."""
    districts = needs_of(graph, deeds, asked)
    return len(way) == len(districts) and all(
        0 <= at < len(told) and lots and lots[0] == told[at] and lots[-1] == district and all(
            is_step_by_closure(graph, lot, part) for lot, part in zip(lots, lots[1:]))
        for (at, lots), district in zip(way, districts))


class Shown(unittest.TestCase):
    def test_by_hand(self):
        self.assertEqual(derivation(DOOR, SEEN, (0,), (1,)), ((0, ((0, 1, 2), (1,))),))
        self.assertIsNone(derivation(BOW, ((0, 1),), (0,), (1,)))
        self.assertEqual(derivation(BOW, ((0, 1), (1,)), (0,), (1,)), ((1, ((1,),)),))
        self.assertEqual(derivation(asked=(0,), deeds=(), told=((0,),), graph=LONE), ((0, ((0,),)),))

    def test_it_is_one(self):
        tried = 0
        for graph, told, deeds, asked in drawn_questions(31, 300, 6):
            way = derivation(graph, told, deeds, asked)
            if way is not None:
                self.assertTrue(is_way_by_closure(graph, told, deeds, asked, way))
                self.assertIs(is_derivation(graph, told, deeds, asked, way), True)
                self.assertEqual(formula_along(graph, told, deeds, asked, way), formula(graph, told, deeds, asked))
                tried += 1
        self.assertGreater(tried, 100)

    def test_there_is_one_exactly_if_it_is_identified(self):
        # By any steps at all, not only by the rounds.
        for graph, told, deeds, asked in drawn_questions(32, 80, 4):
            for district in needs_of(graph, deeds, asked):
                for lot in told:
                    reached, waiting = set(), [lot] if set(district) <= set(lot) else []
                    while waiting:
                        one = waiting.pop()
                        if one not in reached:
                            reached.add(one)
                            waiting.extend(steps_from(graph, one, district))
                    self.assertEqual(district in reached, tells_by_look(graph, lot, district))


class Checked(unittest.TestCase):
    def wrong(self, graph, told, deeds, asked, value):
        self.assertIs(is_derivation(graph, told, deeds, asked, value), False, repr(value))
        self.assertIs(is_derivation(value=value, asked=asked, deeds=deeds, told=told, graph=graph), False)
        self.assertIs(refusal(InvalidDerivation, formula_along, graph, told, deeds, asked, value).given, value)
        self.assertIs(refusal(InvalidDerivation, formula_along, value=value, asked=asked, deeds=deeds, told=told,
                              graph=graph).given, value)

    def test_what_is_none(self):
        for value in WRONG + ((), (WAY,), WAY[:1], WAY[1:], WAY[::-1], WAY + WAY, WAY + WAY[:1], WAY + ((),), list(WAY),
                              dict(WAY), "way", WAY[0], (WAY[0], WAY[0]), (WAY[0], None), ((0, WAY[0][1], 1), WAY[1]),
                              ((0,), WAY[1]), (WAY[0][1], WAY[1]), (WAY[0][::-1], WAY[1]), ((0, ()), WAY[1])):
            self.wrong(DOOR, SEEN, (0,), (2,), value)

    def test_bent_ones(self):
        self.assertIs(is_derivation(DOOR, SEEN, (0,), (2,), WAY), True)
        for value in bends(WAY):
            self.wrong(DOOR, SEEN, (0,), (2,), value)

    def test_another_index(self):
        told = ((0, 1, 2), (0, 1), (1,))
        for at in (-3, -1, 1, 2, 3, False, "0", None, (0,), 10 ** 30):
            self.wrong(DOOR, told, (0,), (2,), ((at, WAY[0][1]), WAY[1]))
        self.assertTrue(is_derivation(DOOR, told, (0,), (2,), ((1, ((0, 1), (1,))), WAY[1])))
        self.assertTrue(is_derivation(DOOR, told, (0,), (2,), ((2, ((1,),)), WAY[1])))
        self.wrong(DOOR, told, (0,), (2,), ((True, ((0, 1), (1,))), WAY[1]))
        self.wrong(DOOR, told, (0,), (2,), ((2, ((1,), (1,))), WAY[1]))
        self.wrong(DOOR, told, (0,), (2,), ((2, ()), WAY[1]))
        self.wrong(DOOR, told, (0,), (2,), ((1, ((1,),)), WAY[1]))

    def test_steps_that_are_none(self):
        for lots in (((0, 1, 2), (2,)), ((0, 1, 2), (1, 2), (2,)), ((0, 1, 2), (0, 2), (0,), (2,)), ((0, 2), (2,)),
                     ((0, 1, 2), (0, 2)), ((0, 1, 2), (0, 2), (0, 2), (2,)), ((0, 1, 2), (0, 1, 2), (0, 2), (2,)),
                     ((0, 1, 2), (0, 2), (2,), (2,)), ((0, 1, 2), (0, 2), (2,), ()), ((0, 1, 2), (), (2,)),
                     ((2,), (0, 2), (0, 1, 2)), ((0, 1, 2), (2, 0), (2,)), ((0, 1, 2), (0, 2), (0, 1, 2), (0, 2), (2,)),
                     ((0, 1, 2), (0, 3), (2,)), ((0, 1, 2), (0, 2), (2,)) * 2, ((0, 1, 2), [0, 2], (2,))):
            self.wrong(DOOR, SEEN, (0,), (2,), (WAY[0], (0, lots)))
        self.wrong(DOOR, SEEN, (0,), (2,), (WAY[0], (0, [(0, 1, 2), (0, 2), (2,)])))

    def test_what_is_almost_one(self):
        source = random.Random(33)
        fine = tried = 0
        for graph, told, deeds, asked in drawn_questions(34, 150, 5):
            way = drawn_way(source, graph, told, deeds, asked)
            if way is None:
                continue
            self.assertIs(is_derivation(graph, told, deeds, asked, way), True)
            for at, (index, lots) in enumerate(way):
                bent = [lots[:here] + lots[here + 1:] for here in range(len(lots))]
                bent += [lots[:here] + lots[here:here + 1] + lots[here:] for here in range(len(lots))]
                bent += [lots[:here] + lots[here:here + 2][::-1] + lots[here + 2:] for here in range(len(lots) - 1)]
                others = [(index, one) for one in bent] + [(one, lots) for one in range(len(told)) if one != index]
                for other in others:
                    value = way[:at] + (other,) + way[at + 1:]
                    if is_way_by_closure(graph, told, deeds, asked, value):
                        self.assertIs(is_derivation(graph, told, deeds, asked, value), True)
                        fine += 1
                    else:
                        self.wrong(graph, told, deeds, asked, value)
                        tried += 1
            for value in (way[1:], way + way[:1], list(way), way[:-1]):
                self.wrong(graph, told, deeds, asked, value)
            if len(way) > 1:
                self.wrong(graph, told, deeds, asked, way[::-1])
        self.assertGreater(tried, 300)
        self.assertGreater(fine, 5)

    def test_all_pairs_of_lots(self):
        # Of three variables: each way of up to two steps is one exactly if closures say so.
        graph = (("a", "b", "c"), ((0, 1), (1, 2)), ((0, 1),))
        every = part_lots((0, 1, 2))
        for district in ((0,), (1,), (2,), (0, 1)):
            deeds = {(0,): (), (1,): (0,), (2,): (1,), (0, 1): ()}[district]
            asked = district
            if needs_of(graph, deeds, asked) != (district,):
                continue
            for one in every:
                for two in every:
                    value = ((0, ((0, 1, 2), one, two)),)
                    wanted = is_way_by_closure(graph, SEEN, deeds, asked, value)
                    self.assertIs(is_derivation(graph, SEEN, deeds, asked, value), wanted)

    def test_deep_ones(self):
        for value in (nested(300), (nested(299),), ((0, nested(298)),), ((0, (nested(297),)),), ((0, ((nested(296),),)),)):
            self.wrong(DOOR, SEEN, (0,), (1,), value)


class Formulas(unittest.TestCase):
    def look(self, graph, told, deeds, asked, way, model):
        """The FORMULA along a derivation, which is one, and has the effect in a model as its value."""
        found = formula_along(graph, told, deeds, asked, way)
        self.assertEqual(formula_along(value=way, asked=asked, deeds=deeds, told=told, graph=graph), found)
        self.assertLessEqual(depth_of(found), 60)
        self.assertLessEqual(factors_of(found), 8)
        self.assertLess(count_parts(found), 2000)
        self.assertEqual(read_formula(graph, told, show_formula(graph, told, found)), found)
        tables = tuple(table(model, lot) for lot in told)
        wanted = spread_out(model[1], deeds, asked, effect(model, deeds, asked))
        self.assertEqual(value_of(graph, model[1], told, tables, found), wanted)
        return found

    def test_by_hand(self):
        one = drawn_model(DOOR, 1, most_states=3, size=3)
        found = self.look(DOOR, SEEN, (0,), (1,), (WAY[0],), one)
        self.assertEqual(count_parts(found), 5)
        self.assertEqual(self.look(LONE, ((0,),), (), (0,), ((0, ((0,),)),), drawn_model(LONE, 2)), ("told", 0))
        self.look(DOOR, SEEN, (0,), (2,), WAY, one)
        self.look(DOOR, SEEN, (), (0, 1, 2), ((0, ((0, 1, 2), (0, 2))), (0, ((0, 1, 2), (1,)))), one)

    def test_any_steps_in_any_order(self):
        source = random.Random(35)
        longest = tried = 0
        for seed, (graph, told, deeds, asked) in enumerate(drawn_questions(36, 260, 5)):
            for every in (True, False):
                way = drawn_way(source, graph, told, deeds, asked, longest=every)
                if way is not None:
                    self.assertIs(is_derivation(graph, told, deeds, asked, way), True)
                    self.look(graph, told, deeds, asked, way, drawn_model(graph, seed, size=3 if len(graph[0]) < 4 else 2))
                    longest = max([longest] + [len(lots) for _, lots in way])
                    tried += 1
        self.assertGreater(tried, 200)
        self.assertEqual(longest, 5)

    def test_steps_of_one_kind_in_a_row(self):
        # Without hidden lots each step may be of either kind; without arrows too each lot leads to each part of it.
        chain = (EIGHT[:5], tuple((at, at + 1) for at in range(4)), ())
        model = drawn_model(chain, 4)
        for lots in (((0, 1, 2, 3, 4), (0, 1, 2, 3), (0, 1, 2), (0, 1), (0,)), ((0, 1, 2, 3, 4), (0, 1), (0,)),
                     ((0, 1, 2, 3, 4), (0, 2, 4), (0, 2), (0,)), ((0, 1, 2, 3, 4), (0,)),
                     ((0, 1, 2, 3, 4), (0, 1, 2, 4), (0, 2, 4), (0, 4), (0,))):
            self.look(chain, ((0, 1, 2, 3, 4),), (), (0,), ((0, lots),), model)
        for lots in (((0, 1, 2, 3, 4), (4,)), ((0, 1, 2, 3, 4), (1, 2, 3, 4), (2, 3, 4), (3, 4), (4,)),
                     ((0, 1, 2, 3, 4), (0, 2, 4), (0, 4), (4,)), ((0, 1, 2, 3, 4), (1, 3, 4), (1, 4), (4,))):
            found = self.look(chain, ((0, 1, 2, 3, 4),), (3,), (4,), ((0, lots),), model)
            self.assertLess(count_parts(found), 100)

    def test_the_longest_ladder(self):
        model = drawn_model(LADDER, 7)
        lots = tuple(tuple(range(count)) + (7,) for count in range(7, -1, -1))
        found = self.look(LADDER, (WHOLE,), tuple(range(7)), (7,), ((0, lots),), model)
        self.assertLess(count_parts(found), 250)

    def test_eight_variables(self):
        source = random.Random(37)
        most = tried = 0
        for seed in range(60):
            graph = drawn_graph(source, 8, most_lots=5)
            told = (WHOLE, (0, 1, 2, 3, 4, 6, 7))
            deeds, asked = drawn_asked(source, 8)
            way = drawn_way(source, graph, told, deeds, asked, longest=True)
            if way is not None:
                found = self.look(graph, told, deeds, asked, way, drawn_model(graph, seed))
                most = max(most, count_parts(found))
                tried += 1
        self.assertGreater(tried, 25)
        self.assertGreater(most, 100)

    def test_no_hidden_lots_and_all_arrows(self):
        # Eight districts, each by as many steps as there can be.
        source = random.Random(38)
        graph = (EIGHT, PAIRS, ())
        model = drawn_model(graph, 9)
        for deeds, asked in (((), WHOLE), ((0,), (7,)), ((3, 5), (1, 6, 7))):
            way = drawn_way(source, graph, (WHOLE,), deeds, asked, longest=True)
            self.assertEqual({len(lots) for _, lots in way}, {8})
            self.look(graph, (WHOLE,), deeds, asked, way, model)

    def test_it_is_made_of_what_the_derivation_names(self):
        told = ((0, 1, 2), (0, 1), (1,), (2,))
        for at, lots in ((0, ((0, 1, 2), (1,))), (1, ((0, 1), (1,))), (2, ((1,),))):
            found = formula_along(DOOR, told, (0,), (1,), ((at, lots),))
            self.assertIn(f"'told', {at}", repr(found))
            self.assertEqual([one for one in range(4) if f"'told', {one}" in repr(found)], [at])

    def test_identified_ones_have_formulas(self):
        for graph, told, deeds, asked in drawn_questions(39, 120, 8, most_lots=10):
            if is_identified(graph, told, deeds, asked):
                found = formula(graph, told, deeds, asked)
                self.assertEqual(read_formula(graph, told, show_formula(graph, told, found)), found)
                self.assertLess(count_parts(found), 2000)


if __name__ == "__main__":
    unittest.main()
