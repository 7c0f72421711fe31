"""Linear programs in whole numbers, by the simplex method (Dantzig, Bland).

An equation is a list of whole numbers: one for each unknown, and last what their products add up to. The unknown
number 0 is a helper, which is 0 in each equation, and is needed to find unknowns that are from 0 on.
"""

from causaleffects.ratios import ratio

HELPER = 0


class Tableau:
    """Equations, each solved for one unknown, which no other one has.

    All numbers are meant by the divisor, which is above 0; so each row has it at its unknown, which `basis` tells.
    `goal` is a row likewise of what is to be made least, its last number being that below 0. `kept` tells which of
    the equations that were taken are none that those ahead add up to.
    """

    def __init__(self):
        self.rows = []
        self.basis = []
        self.divisor = 1
        self.goal = []
        self.kept = []

    def reduced(self, row):
        """A row of whole numbers without the unknowns of the basis, times the divisor."""
        found = [self.divisor * one for one in row]
        for column, other in zip(self.basis, self.rows):
            factor = row[column]
            if factor != 0:
                found = [one - factor * two for one, two in zip(found, other)]
        return found

    def turn(self, at, column):
        """Solve a row for the unknown of this column in the place of its own."""
        lead = self.rows[at]
        if lead[column] < 0:
            lead = [-one for one in lead]
        others = [cleared(row, lead, column, self.divisor) for row in self.rows]
        self.rows = [*others[:at], lead, *others[at + 1:]]
        if self.goal:
            self.goal = cleared(self.goal, lead, column, self.divisor)
        self.basis[at] = column
        self.divisor = lead[column]

    def take(self, number, equation):
        """Take the equation with this number; whether it does not contradict those ahead."""
        row = self.reduced(equation)
        column = first_column(row)
        if column is None:
            return row[-1] == 0
        self.rows.append(row)
        self.basis.append(column)
        self.kept.append(number)
        self.turn(len(self.rows) - 1, column)
        return True

    def aim(self, costs):
        """What is to be made least: the sum of the unknowns times their costs."""
        self.goal = self.reduced([*costs, 0])

    def lessen(self):
        """Go on to where the goal is least; that is somewhere, and no unknown is below 0 so far.

        The unknown that lessens it most comes in; but behind a step that has lessened nothing the first one that can,
        which never leads round.
        """
        still = False
        column = self.entering(still)
        while column is not None:
            at = self.leaving(column)
            still = self.rows[at][-1] == 0
            self.turn(at, column)
            column = self.entering(still)

    def entering(self, still):
        """The unknown to come in next, None if none lessens the goal."""
        found = [at for at, one in enumerate(self.goal[:-1]) if one < 0]
        if not found:
            return None
        if still:
            return found[0]
        return min(found, key=lambda at: self.goal[at])

    def leaving(self, column):
        """The row whose unknown comes to 0 first where that of the column grows, of several that of the first one."""
        best = None
        for at, row in enumerate(self.rows):
            if row[column] > 0 and (best is None or self.sooner(at, best, column)):
                best = at
        return best

    def sooner(self, one, other, column):
        """Whether the unknown of one row comes to 0 ahead of that of another one."""
        first = self.rows[one][-1] * self.rows[other][column]
        second = self.rows[other][-1] * self.rows[one][column]
        return first < second or (first == second and self.basis[one] < self.basis[other])


def cleared(row, lead, column, divisor):
    """A row without the unknown of the leading row, by that one's divisor in the place of its own."""
    factor = row[column]
    pivot = lead[column]
    # All these numbers are determinants of the equations' own numbers, so nothing is left over.
    if factor != 0:
        return [(one * pivot - factor * other) // divisor for one, other in zip(row, lead)]
    if pivot != divisor:
        return [one * pivot // divisor for one in row]
    return row


def first_column(row):
    """The first unknown that a row has, None if it has none."""
    for at, one in enumerate(row[:-1]):
        if one != 0:
            return at
    return None


def solved(equations):
    """The Tableau of equations, None if they contradict one another."""
    tableau = Tableau()
    for number, equation in enumerate(equations):
        if not tableau.take(number, equation):
            return None
    return tableau


def find_start(tableau):
    """Go to where no unknown is below 0; whether there is such a place."""
    if all([row[-1] >= 0 for row in tableau.rows]):
        return True
    # With the helper great enough all others are from 0 on; then it is made as small as can be.
    tableau.rows = [[-tableau.divisor if row[-1] < 0 else 0, *row[1:]] for row in tableau.rows]
    ends = [row[-1] for row in tableau.rows]
    tableau.turn(ends.index(min(ends)), HELPER)
    tableau.aim([int(at == HELPER) for at in range(len(tableau.rows[0]) - 1)])
    tableau.lessen()
    # Where the helper comes to 0 with others it leaves as the first of them, so it stays above 0 or goes.
    tableau.rows = [[0, *row[1:]] for row in tableau.rows]
    return HELPER not in tableau.basis


def unknowns(tableau):
    """The RATIOs of the unknowns that are not 0, by their numbers."""
    return {column: ratio(row[-1], tableau.divisor) for column, row in zip(tableau.basis, tableau.rows) if row[-1] != 0}


def multipliers(tableau, equations, costs):
    """A RATIO for each equation, by which they add up to the costs of all unknowns of the basis."""
    turned = [[0, *[equations[at][column] for at in tableau.kept], costs[column]] for column in tableau.basis]
    found = unknowns(solved(turned))
    rows = {}
    for place, number in enumerate(tableau.kept, start=1):
        rows[number] = found.get(place, (0, 1))
    return [rows.get(number, (0, 1)) for number in range(len(equations))]
