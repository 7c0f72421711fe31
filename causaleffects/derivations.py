"""Derivations of effects from told lots, and formulas along them ([C2], [C4], [C5]).

Nothing is checked here but what is_way is asked.
"""

from causaleffects.errors import NotIdentified
from causaleffects.graphs import is_lot
from causaleffects.lots import is_ancestral, is_step, needed_districts, needed_lot, rounds_of, tells, without


def helpful_rows(graph, told, deeds, asked):
    """A pair (DISTRICT, INDEXES) for each district that the effect needs: indexes of told lots that tell it."""
    found = []
    for district in needed_districts(graph, deeds, asked):
        found.append((district, tuple([at for at, lot in enumerate(told) if tells(graph, lot, district)])))
    return tuple(found)


def first_untold(graph, told, deeds, asked):
    """The first district that the effect needs and no told lot tells, None if there is none."""
    for district, indexes in helpful_rows(graph, told, deeds, asked):
        if indexes == ():
            return district
    return None


def some_way(graph, told, deeds, asked):
    """A derivation of an effect that is identified: each district by the rounds from the first lot that tells it."""
    rows = helpful_rows(graph, told, deeds, asked)
    return tuple([(indexes[0], rounds_of(graph, told[indexes[0]], district)) for district, indexes in rows])


def is_way(graph, told, deeds, asked, value):
    """Whether a value, whatever it is, is a derivation of the effect."""
    districts = needed_districts(graph, deeds, asked)
    if type(value) is not tuple or len(value) != len(districts):
        return False
    return all([leads_to(graph, told, district, one) for district, one in zip(districts, value)])


def leads_to(graph, told, district, value):
    """Whether a value, whatever it is, is a pair (I, LOTS) of steps from the told lot number I to the district."""
    if type(value) is not tuple or len(value) != 2:
        return False
    at, lots = value
    if type(at) is not int or not 0 <= at < len(told) or type(lots) is not tuple or lots == ():
        return False
    if not all([is_lot(len(graph[0]), lot) for lot in lots]) or lots[0] != told[at] or lots[-1] != district:
        return False
    return all([is_step(graph, lot, part) for lot, part in zip(lots, lots[1:])])


def effect_formula(graph, told, deeds, asked):
    """A FORMULA of the effect."""
    lot = first_untold(graph, told, deeds, asked)
    if lot is not None:
        raise NotIdentified(lot)
    return formula_of_way(graph, deeds, asked, some_way(graph, told, deeds, asked))


def formula_of_way(graph, deeds, asked, way):
    """The FORMULA of the effect along a derivation."""
    factors = [formula_of_steps(graph, at, lots) for at, lots in way]
    return summed(without(needed_lot(graph, deeds, asked), asked), multiplied_parts(factors))


def formula_of_steps(graph, at, lots):
    """The FORMULA of the last one of some lots, a step leading to each from the one ahead, the first one being told."""
    formula = ("told", at)
    for ancestral, lot, part in long_steps(graph, lots):
        if ancestral:
            formula = summed(without(lot, part), formula)
        else:
            formula = formula_of_districts(lot, part, formula)
    return formula


def long_steps(graph, lots):
    """Triples (ANCESTRAL, FROM, TO) of steps, those of one kind that stand behind one another taken as one.

    Each kind of step multiplies what the other one tells, so formulas could get too great otherwise.
    """
    found = []
    for lot, part in zip(lots, lots[1:]):
        ancestral = is_ancestral(graph, lot, part)
        start = lot
        if found and found[-1][0] == ancestral:
            start = found.pop()[1]
        found.append((ancestral, start, part))
    return found


def formula_of_districts(lot, part, formula):
    """The FORMULA of a part that is made of whole districts of a lot, the lot's own being told."""
    factors = []
    for row in neighbours(lot, part):
        above = tuple([one for one in lot if one > row[-1]])
        factor = summed(above, formula)
        # Ahead of the lot's first variable nothing is left: all of it is summed over, which is 1.
        if row[0] != lot[0]:
            factor = ("over", factor, summed(row + above, formula))
        factors.append(factor)
    return multiplied_parts(factors)


def neighbours(lot, part):
    """The longest rows of variables of the part that stand behind one another in the lot."""
    rows = []
    last = None
    for one in lot:
        if one in part and last in part:
            rows.append(rows.pop() + (one,))
        elif one in part:
            rows.append((one,))
        last = one
    return rows


def summed(lot, formula):
    """A FORMULA summed over a lot; what it sums over already is none of this lot."""
    if lot == ():
        return formula
    if formula[0] == "sum":
        return ("sum", tuple(sorted(lot + formula[1])), formula[2])
    return ("sum", lot, formula)


def multiplied_parts(factors):
    """The product of FORMULAs, of which there is at least one."""
    if len(factors) == 1:
        return factors[0]
    return ("times", *factors)
