"""Tables and effects: points B1 and B2, and the interface of causaleffects.models."""

import unittest
from fractions import Fraction
from itertools import combinations

from causaleffects.errors import InvalidAsked, InvalidLot, InvalidModel
from causaleffects.models import effect, is_positive, table
from causaleffects.text import read_model
from helpers import (BOW, DOOR, EIGHT, FLIPS, LONE, PAIRS, PLAIN, WRONG, nested, pair, q_at, refusal, settings, some_model,
                     some_models)

# By hand: u is 0 with chance 1/3; x is as u; y is 1 with chance 1/2, 1/4, 1/5, 0 for x u = 00, 01, 10, 11.
HIDDEN = read_model("names x, y; arrows x -> y; hidden {x, y}; sizes 2, 2; lot {x, y}: 1/3, 2/3;"
                    "table x: 1, 0 | 0, 1; table y: 1/2, 1/2 | 3/4, 1/4 | 4/5, 1/5 | 1, 0;")


def lots_of(count):
    """All LOTs of so many variables."""
    return [lot for size in range(count + 1) for lot in combinations(range(count), size)]


class Tables(unittest.TestCase):
    def test_by_hand(self):
        self.assertEqual(table(FLIPS, (0, 1)), ((1, 6), (1, 6), (1, 6), (1, 2)))
        self.assertEqual(table(FLIPS, (0,)), ((1, 3), (1, 3), (2, 3), (2, 3)))
        self.assertEqual(table(FLIPS, (1,)), ((1, 2), (1, 2), (1, 4), (3, 4)))
        self.assertEqual(table(model=FLIPS, lot=()), ((1, 1),) * 4)
        self.assertEqual(table(HIDDEN, (0, 1)), ((1, 6), (1, 6), (2, 3), (0, 1)))
        self.assertEqual(table(HIDDEN, (0,)), ((1, 3), (1, 3), (2, 3), (2, 3)))
        # 1/3 * 1/2 + 2/3 * 3/4 = 2/3; 1/3 * 4/5 + 2/3 = 14/15.
        self.assertEqual(table(HIDDEN, (1,)), ((2, 3), (1, 3), (14, 15), (1, 15)))
        self.assertEqual(table(HIDDEN, ()), ((1, 1),) * 4)

    def test_one_variable(self):
        coin = read_model("names x; sizes 3; table x: 1/2, 1/3, 1/6;")
        self.assertEqual(table(coin, (0,)), ((1, 2), (1, 3), (1, 6)))
        self.assertEqual(table(coin, ()), ((1, 1),) * 3)

    def test_against_the_sums(self):
        for model in some_models():
            for lot in lots_of(len(model[1])):
                told = tuple(pair(q_at(model, lot, setting)) for setting in settings(model[1]))
                self.assertEqual(table(model, lot), told)

    def test_summed_over_its_lot_it_is_1(self):
        for model in some_models():
            for lot in lots_of(len(model[1])):
                sums = {}
                for setting, chance in zip(settings(model[1]), table(model, lot)):
                    key = tuple(worth for at, worth in enumerate(setting) if at not in lot)
                    sums[key] = sums.get(key, 0) + Fraction(*chance)
                self.assertEqual(set(sums.values()), {1})

    def test_it_hangs_on_the_lot_and_its_parents_alone(self):
        model = some_model((("a", "b", "c", "d"), ((0, 1), (1, 2), (2, 3)), ((0, 2), (1, 3))), (2, 3, 2, 2), (2, 3), 5)
        for lot, heads in (((1,), (0, 1)), ((2,), (1, 2)), ((0,), (0,)), ((1, 3), (0, 1, 2, 3)), ((0, 1), (0, 1))):
            found = {}
            for setting, chance in zip(settings(model[1]), table(model, lot)):
                found.setdefault(tuple(setting[at] for at in heads), set()).add(chance)
            self.assertEqual({len(chances) for chances in found.values()}, {1})

    def test_ratios_are_in_lowest_terms(self):
        for model in some_models():
            for chance in table(model, tuple(range(len(model[1])))):
                self.assertEqual(chance, pair(Fraction(*chance)))
                self.assertIs(type(chance[0]), int)

    def test_positive_models_have_positive_tables(self):
        for model in some_models():
            if is_positive(model):
                for lot in lots_of(len(model[1])):
                    self.assertTrue(all(chance[0] > 0 for chance in table(model, lot)))

    def test_districts_multiply(self):
        model = some_model((("a", "b", "c", "d"), ((0, 1), (1, 2)), ((0, 2), (1, 3))), (2, 2, 2, 2), (3, 2), 6)
        whole, one, two = (table(model, lot) for lot in ((0, 1, 2, 3), (0, 2), (1, 3)))
        for first, second, third in zip(whole, one, two):
            self.assertEqual(Fraction(*first), Fraction(*second) * Fraction(*third))

    def test_many_hidden_lots(self):
        # With 28 lots of one state, or of two states that nobody heeds, the tables are those without lots.
        plain = some_model((EIGHT, PAIRS[:9], ()), (2,) * 8, (), 3)
        for states in (1, 2):
            row = (((1, states),) * states)
            rows = []
            for told in plain[3]:
                rows.append(tuple(one for one in told for _ in range(states ** 7)))
            model = ((EIGHT, PAIRS[:9], PAIRS), (2,) * 8, (row,) * 28, tuple(rows))
            for lot in ((0,), (0, 7), (2, 3, 4), (1, 3, 5, 7)):
                self.assertEqual(table(model, lot), table(plain, lot))

    def test_crossing_lots_of_many_states(self):
        graph = (EIGHT, (), ((0, 4), (1, 5), (2, 6), (3, 7)))
        model = some_model(graph, (2,) * 8, (64, 64, 64, 64), 8)
        whole = table(model, tuple(range(8)))
        parts = [table(model, lot) for lot in graph[2]]
        for at in range(0, 256, 5):
            product = Fraction(1)
            for part in parts:
                product *= Fraction(*part[at])
            self.assertEqual(Fraction(*whole[at]), product)
        # Joined by three more lots of one state each, they are the same.
        joined = (EIGHT, (), tuple(sorted(graph[2] + ((4, 5), (5, 6), (6, 7)))))
        told = dict(zip(graph[2], model[2]))
        hidden = tuple(told.get(lot, ((1, 1),)) for lot in joined[2])
        self.assertEqual(table((joined, model[1], hidden, model[3]), tuple(range(8))), whole)


class Effects(unittest.TestCase):
    def test_by_hand(self):
        self.assertEqual(effect(FLIPS, (0,), (1,)), ((1, 2), (1, 2), (1, 4), (3, 4)))
        self.assertEqual(effect(FLIPS, (), (1,)), ((1, 3), (2, 3)))
        self.assertEqual(effect(FLIPS, (), (0, 1)), ((1, 6), (1, 6), (1, 6), (1, 2)))
        self.assertEqual(effect(FLIPS, (), (0,)), ((1, 3), (2, 3)))
        # What y is set to is told first, though x stands ahead of it.
        self.assertEqual(effect(FLIPS, (1,), (0,)), ((1, 3), (2, 3), (1, 3), (2, 3)))
        self.assertEqual(effect(model=HIDDEN, deeds=(0,), asked=(1,)), ((2, 3), (1, 3), (14, 15), (1, 15)))
        self.assertEqual(effect(HIDDEN, (), (1,)), ((5, 6), (1, 6)))

    def test_the_order_of_the_settings(self):
        model = read_model("names a, b, c; arrows a -> c, b -> c; sizes 2, 3, 2; table a: 1/2, 1/2; table b: 1/2, 1/3, 1/6;"
                           "table c: 1, 0 | 1/2, 1/2 | 1/3, 2/3 | 1/4, 3/4 | 1/5, 4/5 | 1/6, 5/6;")
        rows = ((1, 1), (0, 1), (1, 2), (1, 2), (1, 3), (2, 3), (1, 4), (3, 4), (1, 5), (4, 5), (1, 6), (5, 6))
        self.assertEqual(effect(model, (0, 1), (2,)), rows)
        # b and c, a being set: for a = 0 the chances of b = 0, c = 0 and c = 1, and so on.
        self.assertEqual(effect(model, (0,), (1, 2)), (
            (1, 2), (0, 1), (1, 6), (1, 6), (1, 18), (1, 9), (1, 8), (3, 8), (1, 15), (4, 15), (1, 36), (5, 36)))
        # a and c, b being set.
        self.assertEqual(effect(model, (1,), (0, 2)), (
            (1, 2), (0, 1), (1, 8), (3, 8), (1, 4), (1, 4), (1, 10), (2, 5), (1, 6), (1, 3), (1, 12), (5, 12)))

    def test_against_the_sums(self):
        for model in some_models():
            sizes = model[1]
            every = lots_of(len(sizes))
            for deeds in every:
                rest = tuple(one for one in range(len(sizes)) if one not in deeds)
                told = {setting: q_at(model, rest, setting) for setting in settings(sizes)}
                for asked in every:
                    if asked and not set(asked) & set(deeds):
                        sums = []
                        for done in settings([sizes[one] for one in deeds]):
                            for come in settings([sizes[one] for one in asked]):
                                wanted = dict(zip(deeds + asked, done + come))
                                sums.append(pair(sum((chance for setting, chance in told.items() if all(
                                    setting[one] == worth for one, worth in wanted.items())), Fraction(0))))
                        self.assertEqual(effect(model, deeds, asked), tuple(sums))

    def test_it_does_not_hang_on_how_the_deed_would_have_been(self):
        graph, sizes, hidden, rows = some_model(DOOR, (2, 2, 2), (3,), 9)
        told = effect((graph, sizes, hidden, rows), (0,), (2,))
        self.assertEqual(effect((graph, sizes, hidden, (rows[0][::-1],) + rows[1:]), (0,), (2,)), told)

    def test_the_whole_chance_is_1(self):
        for model in some_models():
            for asked in lots_of(len(model[1]))[1:]:
                self.assertEqual(sum(Fraction(*one) for one in effect(model, (), asked)), 1)

    def test_twice_the_same(self):
        for model in some_models():
            last = (len(model[1]) - 1,)
            self.assertEqual(effect(model, (), last), effect(model, (), last))
            self.assertEqual(table(model, last), table(model, last))


class Refused(unittest.TestCase):
    def test_lots(self):
        for lot in WRONG + ((1, 0), (2,), (0, 0), [0], 0, "x", (True,), (0, True), ((0,),)):
            self.assertIs(refusal(InvalidLot, table, FLIPS, lot).given, lot)
            self.assertIs(refusal(InvalidLot, effect, FLIPS, lot, (1,)).given, lot)
            self.assertIs(refusal(InvalidLot, effect, FLIPS, (0,), lot).given, lot)
            self.assertIs(refusal(InvalidLot, effect, asked=lot, deeds=(0,), model=FLIPS).given, lot)
            self.assertIs(refusal(InvalidLot, table, lot=lot, model=FLIPS).given, lot)

    def test_asked(self):
        for deeds in lots_of(2):
            for asked in lots_of(2):
                if not asked or set(asked) & set(deeds):
                    self.assertIs(refusal(InvalidAsked, effect, FLIPS, deeds, asked).given, asked)
                    self.assertIs(refusal(InvalidAsked, effect, asked=asked, model=FLIPS, deeds=deeds).given, asked)
                else:
                    self.assertEqual(len(effect(FLIPS, deeds, asked)), 2 ** (len(deeds) + len(asked)))

    def test_the_first_of_two(self):
        deep = nested(300)
        for wrong in (None, (PLAIN,), list(FLIPS), deep, FLIPS[:3] + (FLIPS[3][::-1],), (LONE, (2,), (), ())):
            for lot in ((0,), (5,), None, deep):
                self.assertIs(refusal(InvalidModel, table, wrong, lot).given, wrong)
                self.assertIs(refusal(InvalidModel, effect, wrong, lot, (1,)).given, wrong)
                self.assertIs(refusal(InvalidModel, effect, wrong, (1,), lot).given, wrong)
                self.assertIs(refusal(InvalidModel, effect, asked=lot, deeds=lot, model=wrong).given, wrong)
            self.assertIs(refusal(InvalidModel, is_positive, wrong).given, wrong)
        self.assertIs(refusal(InvalidLot, effect, FLIPS, (3,), (2,)).given[0], 3)
        self.assertEqual(refusal(InvalidLot, effect, FLIPS, (3,), ()).given, (3,))
        self.assertEqual(refusal(InvalidLot, effect, FLIPS, (1,), (1, 2)).given, (1, 2))
        self.assertEqual(refusal(InvalidLot, effect, FLIPS, (), (1, 0)).given, (1, 0))
        self.assertEqual(refusal(InvalidAsked, effect, FLIPS, (), ()).given, ())


if __name__ == "__main__":
    unittest.main()
