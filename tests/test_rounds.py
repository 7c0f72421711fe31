"""Districts, what effects need, and Tian's rounds: points B3, C1 to C3, and the interface of causaleffects.rounds."""

import random
import unittest
from fractions import Fraction

from causaleffects.errors import InvalidAsked, InvalidGraph, InvalidLot, NotWithin
from causaleffects.models import effect, table
from causaleffects.rounds import ancestors, districts, greatest_hedge, needed, needs, rounds
from helpers import BOW, DOOR, EIGHT, LADDER, LONE, PAIRS, PLAIN, WRONG, bends, pair, refusal, settings
from looks import (ancestors_by_closure, districts_by_closure, drawn_graph, drawn_model, hedges_by_look, is_joined,
                   is_rooted, lots_of, needed_by_closure, part_lots)

NO_LOTS = WRONG + ((1, 0), (0, 0), (3,), (0, 3), [0], 0, "x", (True,), (0, True), ((0,),), (-1,))


def drawn_graphs(seed, many, most=8):
    """So many graphs of one to eight variables, some with many hidden lots."""
    source = random.Random(seed)
    for at in range(many):
        yield drawn_graph(source, 1 + at % most, most_lots=source.choice((2, 6, 28)))


def asked_of(count):
    """All that can be asked of a graph with so many variables."""
    return [(deeds, asked) for deeds in lots_of(count) for asked in lots_of(count)[1:] if not set(deeds) & set(asked)]


def joined_within(graph, lot):
    """All lots within a lot that are one district of themselves."""
    return [part for part in part_lots(lot) if part and is_joined(graph, part)]


class Ancestors(unittest.TestCase):
    def test_by_hand(self):
        fork = (("a", "b", "c", "d"), ((0, 1), (0, 2), (1, 3)), ((0, 3),))
        every = (0, 1, 2, 3)
        self.assertEqual(ancestors(fork, every, (3,)), (0, 1, 3))
        self.assertEqual(ancestors(fork, every, (2,)), (0, 2))
        self.assertEqual(ancestors(fork, every, (2, 3)), every)
        self.assertEqual(ancestors(fork, (0, 3), (3,)), (3,))
        self.assertEqual(ancestors(fork, (1, 2, 3), (3,)), (1, 3))
        self.assertEqual(ancestors(fork, every, ()), ())
        self.assertEqual(ancestors(fork, (), ()), ())
        self.assertEqual(ancestors(starts=(0,), lot=(0,), graph=LONE), (0,))

    def test_against_closures(self):
        for graph in drawn_graphs(1, 48):
            source = random.Random(len(graph[1]))
            every = lots_of(len(graph[0]))
            for lot in source.sample(every, min(len(every), 20)):
                for starts in source.sample(part_lots(lot), min(2 ** len(lot), 8)):
                    self.assertEqual(ancestors(graph, lot, starts), ancestors_by_closure(graph, lot, starts))

    def test_a_long_chain(self):
        chain = (EIGHT, tuple((at, at + 1) for at in range(7)), ())
        for start in range(8):
            self.assertEqual(ancestors(chain, tuple(range(8)), (start,)), tuple(range(start + 1)))
            self.assertEqual(ancestors(chain, (0, 1, 2, 4, 5, 6, 7), (7,)), (4, 5, 6, 7))


class Districts(unittest.TestCase):
    def test_by_hand(self):
        self.assertEqual(districts(DOOR, (0, 1, 2)), ((0, 2), (1,)))
        self.assertEqual(districts(DOOR, (0, 1)), ((0,), (1,)))
        self.assertEqual(districts(DOOR, ()), ())
        self.assertEqual(districts(lot=(0, 1), graph=BOW), ((0, 1),))
        self.assertEqual(districts(PLAIN, (0, 1)), ((0,), (1,)))
        three = (("a", "b", "c", "d"), (), ((0, 1, 2), (2, 3)))
        self.assertEqual(districts(three, (0, 1, 2, 3)), ((0, 1, 2, 3),))
        # The lot of three still joins a and b where c is left out; d has nobody then.
        self.assertEqual(districts(three, (0, 1, 3)), ((0, 1), (3,)))

    def test_a_chain_that_is_cut(self):
        chain = (EIGHT, (), tuple((at, at + 1) for at in range(7)))
        self.assertEqual(districts(chain, tuple(range(8))), (tuple(range(8)),))
        self.assertEqual(districts(chain, (0, 1, 3, 4, 5, 7)), ((0, 1), (3, 4, 5), (7,)))
        back = (EIGHT, (), ((0, 7), (1, 6), (1, 7), (2, 6)))
        self.assertEqual(districts(back, tuple(range(8))), ((0, 1, 2, 6, 7), (3,), (4,), (5,)))

    def test_against_closures(self):
        for graph in drawn_graphs(2, 64):
            for lot in lots_of(len(graph[0]))[::3]:
                self.assertEqual(districts(graph, lot), districts_by_closure(graph, lot))
        for lot in lots_of(8):
            self.assertEqual(districts((EIGHT, PAIRS, PAIRS), lot), (lot,) if lot else ())

    def test_the_table_is_the_product_of_those_of_the_districts(self):
        for seed, graph in enumerate(drawn_graphs(3, 40, most=5)):
            model = drawn_model(graph, seed, most_states=3, size=3)
            for lot in lots_of(len(graph[0])):
                told = [Fraction(1)] * len(settings(model[1]))
                for district in districts(graph, lot):
                    told = [one * Fraction(*other) for one, other in zip(told, table(model, district))]
                self.assertEqual(table(model, lot), tuple(pair(one) for one in told))


class Needed(unittest.TestCase):
    def test_by_hand(self):
        self.assertEqual([needed(DOOR, (0,), (2,)), needs(DOOR, (0,), (2,))], [(1, 2), ((1,), (2,))])
        self.assertEqual([needed(DOOR, (), (2,)), needs(DOOR, (), (2,))], [(0, 1, 2), ((0, 2), (1,))])
        self.assertEqual([needed(DOOR, (1,), (2,)), needs(DOOR, (1,), (2,))], [(2,), ((2,),)])
        self.assertEqual([needed(DOOR, (1,), (0, 2)), needs(DOOR, (1,), (0, 2))], [(0, 2), ((0, 2),)])
        self.assertEqual([needed(DOOR, (1, 2), (0,)), needs(asked=(0,), deeds=(1, 2), graph=DOOR)], [(0,), ((0,),)])
        self.assertEqual(needed(asked=(0,), graph=LONE, deeds=()), (0,))

    def test_against_closures(self):
        for graph in drawn_graphs(4, 64):
            source = random.Random(len(graph[1]) + 8 * len(graph[2]))
            every = asked_of(len(graph[0]))
            for deeds, asked in source.sample(every, min(len(every), 60)):
                lot = needed_by_closure(graph, deeds, asked)
                self.assertEqual(needed(graph, deeds, asked), lot)
                self.assertEqual(needs(graph, deeds, asked), districts_by_closure(graph, lot))

    def test_the_effect_is_the_sum_of_the_product_of_their_tables(self):
        for seed, graph in enumerate(drawn_graphs(5, 30, most=4)):
            model = drawn_model(graph, seed, size=3)
            for deeds, asked in asked_of(len(graph[0])):
                sums = {}
                inner = needed(graph, deeds, asked)
                tables = [table(model, district) for district in needs(graph, deeds, asked)]
                for at, setting in enumerate(settings(model[1])):
                    # Whatever stands neither in D nor in X is left at 0, as nothing hangs on it.
                    if all(setting[one] == 0 for one in range(len(setting)) if one not in inner + deeds):
                        product = Fraction(1)
                        for one in tables:
                            product *= Fraction(*one[at])
                        key = tuple(setting[one] for one in deeds), tuple(setting[one] for one in asked)
                        sums[key] = sums.get(key, 0) + product
                self.assertEqual(effect(model, deeds, asked), tuple(pair(sums[key]) for key in sorted(sums)))


class Rounds(unittest.TestCase):
    def test_by_hand(self):
        self.assertEqual(rounds(DOOR, (0, 1, 2), (2,)), ((0, 1, 2), (0, 2), (2,)))
        self.assertEqual(rounds(DOOR, (0, 1, 2), (1,)), ((0, 1, 2), (1,)))
        self.assertEqual(rounds(DOOR, (0, 1), (0,)), ((0, 1), (0,)))
        self.assertEqual(rounds(DOOR, (0, 1, 2), (0, 2)), ((0, 1, 2), (0, 2)))
        self.assertEqual(rounds(DOOR, (2,), (2,)), ((2,),))
        self.assertEqual(rounds(ends=(1,), lot=(0, 1), graph=BOW), ((0, 1),))
        self.assertEqual(rounds(PLAIN, (0, 1), (1,)), ((0, 1), (1,)))

    def test_the_first_turn_changes_nothing(self):
        # All of it is one district, of which only a and c are ancestors of c.
        graph = (("a", "b", "c"), ((0, 2),), ((0, 1), (1, 2)))
        self.assertEqual(rounds(graph, (0, 1, 2), (2,)), ((0, 1, 2), (0, 2), (2,)))
        self.assertIsNone(greatest_hedge(graph, (0, 1, 2), (2,)))

    def test_many_turns(self):
        # g has no hidden lot; without it f leads nowhere; without that e is joined to nobody, and so on down to a.
        way = rounds(LADDER, tuple(range(8)), (7,))
        self.assertEqual(way, tuple(tuple(range(count)) + (7,) for count in range(7, -1, -1)))
        self.assertIsNone(greatest_hedge(LADDER, tuple(range(8)), (7,)))
        stairs = (("a", "b", "c", "d", "e"), ((0, 1), (1, 4), (2, 3)), ((0, 2), (1, 3), (1, 4), (2, 4)))
        self.assertEqual(rounds(stairs, (0, 1, 2, 3, 4), (4,)), ((0, 1, 2, 3, 4), (0, 1, 4), (1, 4)))
        self.assertEqual(greatest_hedge(stairs, (0, 1, 2, 3, 4), (4,)), (1, 4))

    def test_step_by_step(self):
        tried = 0
        for graph in drawn_graphs(6, 64):
            source = random.Random(len(graph[1]) + 8 * len(graph[2]))
            every = lots_of(len(graph[0]))
            for lot in source.sample(every, min(len(every), 12)):
                ends = joined_within(graph, lot)
                for small in source.sample(ends, min(len(ends), 5)):
                    told, turn, still = [lot], 0, 0
                    while still < 2:
                        last = told[-1]
                        if turn % 2:
                            after = ancestors_by_closure(graph, last, small)
                        else:
                            after = next(one for one in districts_by_closure(graph, last) if set(small) <= set(one))
                        turn, still = turn + 1, still + 1
                        if after != last:
                            told.append(after)
                            still = 0
                    self.assertEqual(rounds(graph, lot, small), tuple(told))
                    tried += len(told)
        self.assertGreater(tried, 2000)

    def test_they_end_at_the_greatest_lot_that_is_so(self):
        stuck = 0
        for graph in drawn_graphs(7, 42, most=7):
            source = random.Random(len(graph[1]) + 8 * len(graph[2]))
            every = lots_of(len(graph[0]))
            for lot in source.sample(every, min(len(every), 6)) + [every[-1]]:
                ends = joined_within(graph, lot)
                for small in source.sample(ends, min(len(ends), 4)):
                    rooted = [part for part in part_lots(lot) if is_rooted(graph, small, part)]
                    greatest = max(rooted, key=len)
                    self.assertTrue(all(set(one) <= set(greatest) for one in rooted))
                    self.assertEqual(rounds(graph, lot, small)[-1], greatest)
                    self.assertEqual(greatest_hedge(graph, lot, small), None if greatest == small else greatest)
                    self.assertEqual(greatest == small, not hedges_by_look(graph, small, lot))
                    stuck += greatest != small
        self.assertGreater(stuck, 100)

    def test_all_joined_and_all_arrows(self):
        full = (EIGHT, PAIRS, PAIRS)
        for lot in lots_of(8)[1:]:
            self.assertEqual(rounds(full, lot, lot), (lot,))
            self.assertEqual(rounds(full, lot, lot[:1]), (lot, lot[:1]) if len(lot) > 1 else (lot,))
            self.assertEqual(rounds(full, lot, lot[-1:]), (lot,))
            self.assertEqual(greatest_hedge(full, lot, lot[-1:]), lot if len(lot) > 1 else None)


class Refused(unittest.TestCase):
    def test_lots(self):
        for call in (ancestors, rounds, greatest_hedge):
            last = "starts" if call is ancestors else "ends"
            for lot in NO_LOTS:
                self.assertIs(refusal(InvalidLot, call, DOOR, lot, (0,)).given, lot)
                self.assertIs(refusal(InvalidLot, call, DOOR, (0, 1), lot).given, lot)
                self.assertIs(refusal(InvalidLot, call, **{last: lot, "lot": (0, 1), "graph": DOOR}).given, lot)
                # The lot is told ahead of what is wrong behind it.
                for other in ((), (5,), None, (2,), (0, 1)):
                    self.assertIs(refusal(InvalidLot, call, **{last: other, "lot": lot, "graph": DOOR}).given, lot)
        for lot in NO_LOTS:
            self.assertIs(refusal(InvalidLot, districts, DOOR, lot).given, lot)
            self.assertIs(refusal(InvalidLot, districts, lot=lot, graph=DOOR).given, lot)
        for value in bends((0, 2)):
            self.assertIs(refusal(InvalidLot, districts, DOOR, value).given, value)
            self.assertIs(refusal(InvalidLot, rounds, DOOR, (0, 2), value).given, value)

    def test_ends_that_are_no_district_of_their_own(self):
        for call in (rounds, greatest_hedge):
            for ends in ((), (0, 1), (1, 2), (0, 1, 2)):
                for lot in ((0, 1, 2), (0,), ()):
                    self.assertIs(refusal(InvalidLot, call, DOOR, lot, ends).given, ends)
                    self.assertIs(refusal(InvalidLot, call, ends=ends, graph=DOOR, lot=lot).given, ends)
        # x and y are joined by themselves; m and y aren't, though a lot has all three.
        self.assertEqual(rounds(DOOR, (0, 2), (0, 2)), ((0, 2),))

    def test_what_is_not_within(self):
        for call in (ancestors, rounds, greatest_hedge):
            for lot, part in (((), (0,)), ((0,), (1,)), ((0, 1), (2,)), ((0, 1), (0, 2)), ((1,), (0, 2))):
                self.assertIs(refusal(NotWithin, call, DOOR, lot, part).given, part)
                last = "starts" if call is ancestors else "ends"
                self.assertIs(refusal(NotWithin, call, **{last: part, "lot": lot, "graph": DOOR}).given, part)
        self.assertEqual(ancestors(DOOR, (), ()), ())
        self.assertEqual(refusal(NotWithin, ancestors, DOOR, (0,), (0, 1)).given, (0, 1))

    def test_what_is_asked(self):
        for call in (needed, needs):
            for lot in NO_LOTS:
                self.assertIs(refusal(InvalidLot, call, DOOR, lot, (1,)).given, lot)
                self.assertIs(refusal(InvalidLot, call, DOOR, (0,), lot).given, lot)
                self.assertIs(refusal(InvalidLot, call, DOOR, lot, ()).given, lot)
                self.assertIs(refusal(InvalidLot, call, asked=(3,), deeds=lot, graph=DOOR).given, lot)
            for deeds in lots_of(3):
                for asked in lots_of(3):
                    if not asked or set(asked) & set(deeds):
                        self.assertIs(refusal(InvalidAsked, call, DOOR, deeds, asked).given, asked)

    def test_graphs(self):
        nine = (EIGHT + ("i",), (), ())
        crowd = (EIGHT, (), tuple(sorted(PAIRS + ((0, 1, 2),))))
        for graph in WRONG + (nine, crowd, list(DOOR), DOOR[:2], (("x", "y"), ((1, 0),), ())):
            for call, rest in ((ancestors, ((0,), (5,))), (districts, (None,)), (needed, ((), ())), (needs, ((9,), (0,))),
                               (rounds, ((0,), ())), (greatest_hedge, ([], (0, 1)))):
                self.assertIs(refusal(InvalidGraph, call, graph, *rest).given, graph)
        self.assertEqual(len(districts((EIGHT, (), PAIRS), tuple(range(8)))), 1)


if __name__ == "__main__":
    unittest.main()
