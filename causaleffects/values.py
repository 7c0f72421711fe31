"""Values of formulas, and effects told by tables ([C6])."""

from causaleffects.derivations import effect_formula
from causaleffects.errors import InvalidSizes, InvalidTables
from causaleffects.formulas import need_asked, need_formula, need_told
from causaleffects.graphs import need_graph
from causaleffects.modelforms import is_sizes, multiplied, settings
from causaleffects.models import worths
from causaleffects.ratios import is_chance, plus, ratio, times


def value_of(graph, sizes, told, tables, formula):
    """The value of a FORMULA, a RATIO for each setting of all variables; None if there is none."""
    need_graph(graph)
    need_sizes(graph, sizes)
    need_told(graph, told)
    need_tables(sizes, told, tables)
    need_formula(graph, told, formula)
    return formula_value(sizes, tables, formula)


def told_effect(graph, sizes, told, tables, deeds, asked):
    """The effect, as models.effect tells it, in every positive model of these sizes that has these tables."""
    need_graph(graph)
    need_sizes(graph, sizes)
    need_told(graph, told)
    need_tables(sizes, told, tables)
    need_asked(graph, deeds, asked)
    value = formula_value(sizes, tables, effect_formula(graph, told, deeds, asked))
    if value is None:
        return None
    found = {}
    for setting, one in zip(settings(sizes), value):
        # Whatever the other variables are, the value is the same, so the last one may stand for all.
        found[(worths(setting, deeds), worths(setting, asked))] = one
    return tuple([found[key] for key in sorted(found)])


def need_sizes(graph, sizes):
    """Refuse what are no SIZES of the graph."""
    if not is_sizes(graph, sizes):
        raise InvalidSizes(sizes)


def need_tables(sizes, told, tables):
    """Refuse what are not as many TABLES for these SIZES as told lots."""
    if type(tables) is not tuple or len(tables) != len(told):
        raise InvalidTables(None)
    for at, one in enumerate(tables):
        if not is_table(sizes, one):
            raise InvalidTables(at)


def is_table(sizes, value):
    """Whether a value, whatever it is, is a TABLE for these SIZES."""
    if type(value) is not tuple or len(value) != multiplied(sizes):
        return False
    return all(is_chance(one) for one in value)


def formula_value(sizes, tables, formula):
    """The value of a FORMULA, None if there is none."""
    numbers = {}
    number_of(formula, numbers)
    found = []
    for shape in numbers:
        value = shape_value(sizes, tables, shape, found)
        if value is None:
            return None
        found.append(value)
    return found[-1]


def number_of(formula, numbers):
    """The number of a part of a FORMULA, like parts having one, so that each is reckoned once.

    `numbers` gets a number for each unlike shape, which tells the parts within it by theirs, ahead of it.
    """
    if formula[0] == "told":
        shape = formula
    elif formula[0] == "sum":
        shape = ("sum", formula[1], number_of(formula[2], numbers))
    else:
        inner = [number_of(part, numbers) for part in formula[1:]]
        shape = (formula[0], *inner)
    return numbers.setdefault(shape, len(numbers))


def shape_value(sizes, tables, shape, found):
    """The value of a shape, those of its parts being found, by their numbers; None if there is none."""
    if shape[0] == "told":
        return tables[shape[1]]
    if shape[0] == "sum":
        return sum_value(sizes, shape[1], found[shape[2]])
    if shape[0] == "over":
        return over_value(found[shape[1]], found[shape[2]])
    value = found[shape[1]]
    for at in shape[2:]:
        value = tuple([times(one, other) for one, other in zip(value, found[at])])
    return value


def sum_value(sizes, lot, value):
    """The sums of a value over the variables of a lot."""
    rest = tuple([one for one in range(len(sizes)) if one not in lot])
    places = [worths(setting, rest) for setting in settings(sizes)]
    sums = {}
    for place, one in zip(places, value):
        sums[place] = plus(sums.get(place, (0, 1)), one)
    return tuple([sums[place] for place in places])


def over_value(value, divisor):
    """One value by another, None if that is 0 somewhere."""
    if any([one[0] == 0 for one in divisor]):
        return None
    return tuple([ratio(one[0] * other[1], one[1] * other[0]) for one, other in zip(value, divisor)])
