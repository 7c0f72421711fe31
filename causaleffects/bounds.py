"""Sharp bounds of an effect, where a graph has one hidden lot ([E1] to [E5])."""

from causaleffects.errors import InvalidWeights, NoModel, NotBetween, TooMany
from causaleffects.factors import whole_numbers
from causaleffects.kinds import all_kinds, need_few_kinds, need_one_hidden_lot
from causaleffects.modelforms import MOST_STATES
from causaleffects.programs import (costs_of, givers_of, need_bounded, need_bounds_there, need_told_tables,
                                    program_of)
from causaleffects.ratios import is_at_most, is_ratio, plus, ratio
from causaleffects.simplex import find_start, multipliers, solved, unknowns
from causaleffects.values import need_sizes
from causaleffects.weights import are_weights, chance_of, have_tables, mixed, weighted_model


def types(graph, sizes):
    """All types, ascending."""
    need_one_hidden_lot(graph)
    need_sizes(graph, sizes)
    need_few_kinds(graph, sizes)
    return tuple(all_kinds(graph, sizes))


def papers(graph, sizes, told, tables, question):
    """For the least and for the greatest chance of what is asked the triple (RATIO, WEIGHTS, SHARES)."""
    need_bounded(graph, sizes, told, tables, question)
    return ends_of(graph, sizes, told, tables, question)


def bounds(graph, sizes, told, tables, question):
    """The least and the greatest chance of what is asked over all models that tell the tables."""
    need_bounded(graph, sizes, told, tables, question)
    least, greatest = ends_of(graph, sizes, told, tables, question)
    return (least[0], greatest[0])


def between(graph, sizes, told, tables, question, value):
    """WEIGHTS whose model tells the tables and has this chance of what is asked."""
    need_bounded(graph, sizes, told, tables, question)
    least, greatest = ends_of(graph, sizes, told, tables, question)
    if not is_ratio(value) or not is_at_most(least[0], value) or not is_at_most(value, greatest[0]):
        raise NotBetween(value)
    if value == least[0]:
        return least[1]
    way = plus(value, (-least[0][0], least[0][1]))
    whole = plus(greatest[0], (-least[0][0], least[0][1]))
    return mixed(least[1], greatest[1], ratio(way[0] * whole[1], way[1] * whole[0]))


def model_of(graph, sizes, told, tables, weights):
    """The MODEL by WEIGHTS that tell the tables: a state for each type, in their order."""
    need_told_tables(graph, sizes, told, tables)
    need_bounds_there(graph, sizes, told)
    program = program_of(graph, sizes, told, tables)
    if program is None or not are_weights(graph, sizes, weights) or not have_tables(program, weights):
        raise InvalidWeights(weights)
    if len(weights) > MOST_STATES:
        raise TooMany(len(weights))
    return weighted_model(program, weights)


def ends_of(graph, sizes, told, tables, question):
    """As papers, of what is known to be right."""
    program = program_of(graph, sizes, told, tables)
    if program is None:
        raise NoModel()
    scale, equations = equations_of(program)
    tableau = solved(equations)
    if tableau is None or not find_start(tableau):
        raise NoModel()
    divisor, costs = whole_numbers(costs_of(program, question))
    found = []
    for sign in (1, -1):
        aims = [0, *[sign * cost for cost in costs]]
        tableau.aim(aims)
        tableau.lessen()
        weights = weights_of(program, unknowns(tableau), scale)
        shares = shares_of(program, multipliers(tableau, equations, aims), sign, divisor)
        found.append((chance_of(program, question, weights), weights, shares))
    return tuple(found)


def equations_of(program):
    """What the chances of the types keep, for a Tableau, and what all its ends are multiplied by."""
    lines = [[1 for _ in program.kinds]]
    chances = [(1, 1)]
    for part in program.parts:
        lines = lines + [line_of(len(program.kinds), givers) for givers in givers_of(program, part)]
        chances = chances + list(program.known[part])
    scale, ends = whole_numbers(chances)
    return (scale, [[0, *line, end] for line, end in zip(lines, ends)])


def line_of(count, givers):
    """1 for each of so many types that is a giver, 0 for all others."""
    line = [0 for _ in range(count)]
    for at in givers:
        line[at] = 1
    return line


def weights_of(program, chances, scale):
    """The WEIGHTS, told the types' chances by their numbers in the Tableau, times the scale."""
    found = []
    for at, kind in enumerate(program.kinds, start=1):
        if at in chances:
            found.append((kind, ratio(chances[at][0], chances[at][1] * scale)))
    return tuple(found)


def shares_of(program, rows, sign, divisor):
    """The SHARES, told a RATIO for each equation, with this sign and times the divisor."""
    left = [ratio(sign * one[0], divisor * one[1]) for one in rows]
    parts = []
    at = 1
    for part in program.parts:
        until = at + len(program.known[part])
        parts.append(tuple(left[at:until]))
        at = until
    return (left[0], tuple(parts))
