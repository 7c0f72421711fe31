"""Whether papers show that claims are so ([F1])."""

from causaleffects.derivations import formula_of_way, is_way
from causaleffects.errors import CausalError
from causaleffects.formulas import need_formula
from causaleffects.graphs import is_lot, need_graph, need_lot
from causaleffects.identify import need_question
from causaleffects.lots import is_hedge_in, is_step, is_within, needed_districts
from causaleffects.modelforms import is_model, need_model, settings
from causaleffects.models import effect, is_positive, table_of, worths
from causaleffects.programs import need_bounded, program_of
from causaleffects.ratios import is_ratio
from causaleffects.rounds import need_joined
from causaleffects.values import formula_value, is_table
from causaleffects.weights import (are_shares, are_weights, chance_of, have_tables, show_greatest, show_least,
                                   worth_of)


def accepts(claim, paper):
    """Whether the paper shows that the claim is so; False for what is no claim, whatever both are."""
    if type(claim) is not tuple or len(claim) == 0 or type(claim[0]) is not str or claim[0] not in CHECKS:
        return False
    if len(claim) != LENGTHS[claim[0]]:
        return False
    check = CHECKS[claim[0]]
    try:
        return check(claim[1:], paper)
    except CausalError:
        # Whatever is refused by itself is no part of a claim.
        return False


def show_identified(things, paper):
    """Whether it is a derivation of the effect."""
    graph, told, deeds, asked = things
    need_question(graph, told, deeds, asked)
    return is_way(graph, told, deeds, asked, paper)


def show_not_identified(things, paper):
    """Whether it is a district with hedges in all told lots that have it, or two models unlike in the effect alone."""
    graph, told, deeds, asked = things
    need_question(graph, told, deeds, asked)
    if type(paper) is not tuple or len(paper) != 2:
        return False
    first, second = paper
    if are_two_models(graph, told, first, second):
        return effect(first, deeds, asked) != effect(second, deeds, asked)
    return is_stuck(graph, told, needed_districts(graph, deeds, asked), first, second)


def are_two_models(graph, told, one, other):
    """Whether both are positive MODELs of the graph, of the same SIZES, in which all told tables are the same."""
    if not is_positive_of(graph, one) or not is_positive_of(graph, other) or one[1] != other[1]:
        return False
    return all([table_of(one, lot) == table_of(other, lot) for lot in told])


def is_positive_of(graph, value):
    """Whether a value, whatever it is, is a positive MODEL of the graph."""
    return is_model(value) and value[0] == graph and is_positive(value)


def is_stuck(graph, told, districts, small, hedges):
    """Whether it is one of the districts, and each told lot that has it has one of the hedges of it."""
    count = len(graph[0])
    if not is_lot(count, small) or small not in districts:
        return False
    if type(hedges) is not tuple or not all([is_lot(count, one) for one in hedges]):
        return False
    having = [lot for lot in told if is_within(small, lot)]
    return all([any([is_hedge_in(graph, small, one, lot) for one in hedges]) for lot in having])


def show_told_by(things, paper):
    """Whether it is a derivation of the effect with no other indexes."""
    graph, told, deeds, asked, indexes = things
    need_question(graph, told, deeds, asked)
    if type(indexes) is not tuple or not all([type(at) is int and 0 <= at < len(told) for at in indexes]):
        return False
    return is_way(graph, told, deeds, asked, paper) and all([at in indexes for at, _ in paper])


def show_hedge(things, paper):
    """Whether it is (), and the hedge is one."""
    graph, small, great, within = things
    need_graph(graph)
    need_lot(graph, small)
    need_lot(graph, great)
    need_lot(graph, within)
    return is_nothing(paper) and is_hedge_in(graph, small, great, within)


def show_no_hedge(things, paper):
    """Whether steps lead along it from the lot to the small one."""
    graph, small, within = things
    need_graph(graph)
    need_joined(graph, small)
    need_lot(graph, within)
    if type(paper) is not tuple or len(paper) == 0 or not all([is_lot(len(graph[0]), lot) for lot in paper]):
        return False
    if paper[0] != within or paper[-1] != small:
        return False
    return all([is_step(graph, lot, part) for lot, part in zip(paper, paper[1:])])


def show_formula(things, paper):
    """Whether it is a derivation along which just this FORMULA is made."""
    graph, told, deeds, asked, formula = things
    need_question(graph, told, deeds, asked)
    need_formula(graph, told, formula)
    return is_way(graph, told, deeds, asked, paper) and formula_of_way(graph, deeds, asked, paper) == formula


def show_no_formula(things, paper):
    """Whether it is a positive MODEL of the graph in which the FORMULA does not have the effect as its value."""
    graph, told, deeds, asked, formula = things
    need_question(graph, told, deeds, asked)
    need_formula(graph, told, formula)
    if not is_positive_of(graph, paper):
        return False
    sizes = paper[1]
    value = formula_value(sizes, tuple([table_of(paper, lot) for lot in told]), formula)
    rows = settings([sizes[one] for one in deeds + asked])
    chances = dict(zip(rows, effect(paper, deeds, asked)))
    return value != tuple([chances[worths(setting, deeds + asked)] for setting in settings(sizes)])


def show_table(things, paper):
    """Whether it is (), and the table is that of the model."""
    model, lot, table = things
    need_model(model)
    need_lot(model[0], lot)
    return is_nothing(paper) and is_table(model[1], table) and table_of(model, lot) == table


def show_effect(things, paper):
    """Whether it is (), and the effect is that of the model."""
    model, deeds, asked, chances = things
    if type(chances) is not tuple or not all([is_ratio(one) for one in chances]):
        return False
    return is_nothing(paper) and effect(model, deeds, asked) == chances


def show_least_chance(things, paper):
    """Whether it is a pair of weights that have the chance and shares by which there is no lesser one."""
    program = claimed_program(things)
    return is_end(program, things, paper) and show_least(program, things[4], paper[1])


def show_greatest_chance(things, paper):
    """Whether it is a pair of weights that have the chance and shares by which there is no greater one."""
    program = claimed_program(things)
    return is_end(program, things, paper) and show_greatest(program, things[4], paper[1])


def show_met(things, paper):
    """Whether it is weights that tell the tables and have the chance."""
    return is_met(claimed_program(things), things, paper)


def is_end(program, things, paper):
    """Whether it is a pair of weights that have the chance and shares that have it as their worth."""
    if type(paper) is not tuple or len(paper) != 2:
        return False
    weights, shares = paper
    if not is_met(program, things, weights):
        return False
    return are_shares(program, shares) and worth_of(program, shares) == things[5]


def is_met(program, things, weights):
    """Whether it is weights that tell the tables and have the chance."""
    if program is None or not are_weights(program.graph, program.sizes, weights):
        return False
    return have_tables(program, weights) and chance_of(program, things[4], weights) == things[5]


def claimed_program(things):
    """The Program of a claim on chances; None if there is none, or if this is no claim."""
    graph, sizes, told, tables, question, chance = things
    need_bounded(graph, sizes, told, tables, question)
    if not is_ratio(chance):
        return None
    return program_of(graph, sizes, told, tables)


def is_nothing(paper):
    """Whether a paper is ()."""
    return type(paper) is tuple and len(paper) == 0


LENGTHS = {
    "identified": 5, "not identified": 5, "told by": 6, "hedge": 5, "no hedge": 4, "formula": 6, "no formula": 6,
    "table": 4, "effect": 5, "least": 7, "greatest": 7, "met": 7,
}
CHECKS = {
    "identified": show_identified, "not identified": show_not_identified, "told by": show_told_by,
    "hedge": show_hedge, "no hedge": show_no_hedge, "formula": show_formula, "no formula": show_no_formula,
    "table": show_table, "effect": show_effect, "least": show_least_chance, "greatest": show_greatest_chance,
    "met": show_met,
}
