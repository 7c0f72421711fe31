"""The simplex method in whole numbers, beneath the bounds of E3 to E5."""

import random
import unittest
from fractions import Fraction
from itertools import combinations

from causaleffects import simplex
from causaleffects.simplex import Tableau, find_start, multipliers, solved, unknowns


def by_looks(equations, costs):
    """The least goal of all basic unknowns that are from 0 on, None for none: a look at all lots of columns."""
    count = len(equations[0]) - 1
    best = None
    rank = len(solved(equations).rows) if solved(equations) else None
    if rank is None:
        return None
    for lot in combinations(range(1, count), rank):
        tableau = solved([[0] + [row[at] for at in lot] + row[-1:] for row in equations])
        if tableau is not None and len(tableau.rows) == rank and all(row[-1] >= 0 for row in tableau.rows):
            goal = sum(Fraction(row[-1], tableau.divisor) * costs[lot[column - 1]]
                       for column, row in zip(tableau.basis, tableau.rows))
            best = goal if best is None else min(best, goal)
    return best


class Simplex(unittest.TestCase):
    def setUp(self):
        # Each whole division has to leave nothing, or numbers would be lost without a word.
        self.cleared = simplex.cleared

        def checked(row, lead, column, divisor):
            found = self.cleared(row, lead, column, divisor)
            for one, other, worth in zip(row, lead, found):
                self.assertEqual(one * lead[column] - row[column] * other, worth * divisor)
            return found

        simplex.cleared = checked

    def tearDown(self):
        simplex.cleared = self.cleared

    def least(self, equations, costs):
        """The least goal, None if there are no unknowns from 0 on; what is found is looked through."""
        tableau = solved(equations)
        if tableau is None or not find_start(tableau):
            return None
        tableau.aim(costs)
        tableau.lessen()
        found = unknowns(tableau)
        self.assertNotIn(0, found)
        for row in equations:
            self.assertEqual(sum(Fraction(*one) * row[at] for at, one in found.items()), row[-1])
        self.assertTrue(all(one[0] > 0 for one in found.values()))
        goal = sum(Fraction(*one) * costs[at] for at, one in found.items())
        rows = [Fraction(*one) for one in multipliers(tableau, equations, costs)]
        self.assertEqual(len(rows), len(equations))
        for at in range(1, len(costs)):
            self.assertLessEqual(sum(one * row[at] for one, row in zip(rows, equations)), costs[at])
        self.assertEqual(sum(one * row[-1] for one, row in zip(rows, equations)), goal)
        return goal

    def test_by_hand(self):
        # Two unknowns that add up to 5, the first twice as dear as the second.
        self.assertEqual(self.least([[0, 1, 1, 5]], [0, 2, 1]), 5)
        self.assertEqual(self.least([[0, 1, 1, 5], [0, 2, 2, 10]], [0, 2, 1]), 5)
        self.assertEqual(self.least([[0, 1, 1, 5], [0, 1, 0, 2]], [0, 2, 1]), 7)
        self.assertEqual(self.least([[0, 1, 1, 0]], [0, -7, 3]), 0)

    def test_contradictions(self):
        self.assertIsNone(solved([[0, 1, 1, 5], [0, 2, 2, 11]]))
        self.assertIsNone(solved([[0, 0, 0, 1]]))
        self.assertIsNone(self.least([[0, 1, 1, 5], [0, 1, 0, 6]], [0, 1, 1]))
        self.assertIsNone(self.least([[0, 1, 1, -1]], [0, 1, 1]))

    def test_where_the_helper_comes_to_0_with_others(self):
        # It has to be the one that goes then, or there would seem to be no unknowns from 0 on.
        for equations in (
                [[0, -1, 0, 2, -1, 4], [0, 2, 2, 1, 1, 2]],
                [[0, 2, -1, 0, 2, 2, 4], [0, -1, 0, -1, 0, 1, 0], [0, 0, 1, 1, 1, 1, 1], [0, 1, 1, -1, -1, -1, 0]],
                [[0, 2, 2, 0, 2, -1, 3], [0, -1, 0, 1, -1, 1, 1], [0, -1, 2, -1, 1, 0, 4], [0, -1, 1, 0, 1, 2, 4]]):
            tableau = solved(equations)
            self.assertLess(min(row[-1] for row in tableau.rows), 0)
            self.assertIs(find_start(tableau), True)
            self.assertNotIn(0, tableau.basis)
            for row in equations:
                self.assertEqual(sum(Fraction(*one) * row[at] for at, one in unknowns(tableau).items()), row[-1])
            self.assertGreaterEqual(min(row[-1] for row in tableau.rows), 0)

    def test_equations_that_say_nothing_new_are_left_out(self):
        tableau = solved([[0, 1, 1, 0, 3], [0, 0, 1, 1, 2], [0, 1, 2, 1, 5], [0, 1, 0, 0, 1], [0, 0, 0, 0, 0]])
        self.assertEqual(tableau.kept, [0, 1, 3])
        self.assertEqual(unknowns(tableau), {1: (1, 1), 2: (2, 1)})
        self.assertEqual(solved([]).rows, [])

    def test_an_example_that_leads_round_by_the_greatest_steps_alone(self):
        # Beale's: all ends but one are 0, so most steps lessen nothing.
        rows = [[0, 1, 0, 0, 25, -6000, -4, 900, 0], [0, 0, 1, 0, 50, -9000, -2, 300, 0], [0, 0, 0, 1, 0, 0, 1, 0, 1]]
        rows = [[0] + [one * 100 for one in row[1:4]] + row[4:8] + [row[8] * 100] for row in rows]
        rows[2] = [0, 0, 0, 1, 0, 0, 1, 0, 1]
        self.assertEqual(self.least(rows, [0, 0, 0, 0, -75, 15000, -2, 600]), -5)

    def test_steps_behind_one_that_lessens_nothing_take_the_first_unknown(self):
        tableau = Tableau()
        tableau.goal = [0, -1, -5, 3, -5, 0]
        self.assertEqual([tableau.entering(True), tableau.entering(False)], [1, 2])
        tableau.goal = [0, 0, 5, -9]
        self.assertIsNone(tableau.entering(False))

    def test_against_looks_at_all_bases(self):
        source = random.Random(31)
        met = 0
        for _ in range(250):
            count, many = source.randint(2, 6), source.randint(1, 4)
            equations = [[0] + [source.randint(-2, 3) for _ in range(count)] for _ in range(many)]
            right = [source.choice((0, 0, 1, 2, 3)) for _ in range(count)]
            for row in equations:
                row.append(sum(one * worth for one, worth in zip(row[1:], right)) + (source.random() < 0.1))
            # All unknowns together are at most 20, so that each goal has an end.
            equations = [row[:-1] + [0] + row[-1:] for row in equations] + [[0] + [1] * (count + 1) + [20]]
            costs = [0] + [source.randint(-5, 5) for _ in range(count)] + [0]
            found = self.least(equations, costs)
            self.assertEqual(found, by_looks(equations, costs))
            met += found is not None
        self.assertGreater(met, 150)
        self.assertLess(met, 250)


if __name__ == "__main__":
    unittest.main()
