"""Point F1, looked up the long way: whether a paper shows a claim; and all that is otherwise in one thing."""

from fractions import Fraction

from causaleffects.bounds import types
from causaleffects.errors import CausalError
from causaleffects.identify import formula_along, is_derivation, is_identified
from causaleffects.models import effect, is_positive, table
from causaleffects.text import show_formula, show_lot
from causaleffects.values import value_of
from helpers import WRONG, pair, settings
from looks import districts_by_closure, hedges_by_look, is_joined, is_step_by_closure, needed_by_closure
from responses import (are_right_weights, chance_by_weights, costs_by_look, part_rows, q_by_ratios, shares_givens,
                       shares_worth, span_of)


def is_plain(value):
    """Whether a value is made of tuples, whole numbers and texts alone."""
    waiting = [value]
    while waiting:
        one = waiting.pop()
        if type(one) is tuple:
            waiting.extend(one)
        elif type(one) not in (int, str):
            return False
    return True


def shows(claim, paper):
    """Whether a paper shows a claim, by the words of F1."""
    if not is_plain(claim) or not is_plain(paper) or type(claim) is not tuple or not claim:
        return False
    show = {"identified": identified, "not identified": not_identified, "told by": told_by, "hedge": hedge,
            "no hedge": no_hedge, "formula": formula, "no formula": no_formula, "table": model_table,
            "effect": model_effect, "least": least, "greatest": greatest, "met": met}.get(claim[0])
    try:
        return show is not None and show(paper, *claim[1:]) is True
    except (CausalError, TypeError, ValueError, IndexError, KeyError):
        # Whatever has not the form is refused by what looks at it first.
        return False


def identified(paper, graph, told, deeds, asked):
    return is_derivation(graph, told, deeds, asked, paper)


def not_identified(paper, graph, told, deeds, asked):
    is_identified(graph, told, deeds, asked)
    one, two = paper
    if len(one) == len(two) == 4 and type(one[3]) is tuple:
        return (is_positive(one) and is_positive(two) and one[0] == two[0] == graph and one[1] == two[1]
                and all(table(one, lot) == table(two, lot) for lot in told)
                and effect(one, deeds, asked) != effect(two, deeds, asked))
    if one not in districts_by_closure(graph, needed_by_closure(graph, deeds, asked)) or type(two) is not tuple:
        return False
    for lot in two:
        show_lot(graph, lot)
    having = [lot for lot in told if set(one) <= set(lot)]
    return all(any(lot in hedges_by_look(graph, one, within) for lot in two) for within in having)


def told_by(paper, graph, told, deeds, asked, indexes):
    is_identified(graph, told, deeds, asked)
    return (type(indexes) is tuple and all(at in range(len(told)) for at in indexes)
            and is_derivation(graph, told, deeds, asked, paper) and all(at in indexes for at, _ in paper))


def hedge(paper, graph, small, great, within):
    for lot in (small, great, within):
        show_lot(graph, lot)
    return paper == () and great in hedges_by_look(graph, small, within)


def no_hedge(paper, graph, small, within):
    show_lot(graph, small)
    show_lot(graph, within)
    for lot in paper:
        show_lot(graph, lot)
    return (is_joined(graph, small) and type(paper) is tuple and paper[0] == within and paper[-1] == small
            and all(is_step_by_closure(graph, one, other) for one, other in zip(paper, paper[1:])))


def formula(paper, graph, told, deeds, asked, given):
    show_formula(graph, told, given)
    return formula_along(graph, told, deeds, asked, paper) == given


def no_formula(paper, graph, told, deeds, asked, given):
    is_identified(graph, told, deeds, asked)
    show_formula(graph, told, given)
    if not is_positive(paper) or paper[0] != graph:
        return False
    sizes = paper[1]
    value = value_of(graph, sizes, told, tuple(table(paper, lot) for lot in told), given)
    own = dict(zip(settings([sizes[one] for one in deeds + asked]), effect(paper, deeds, asked)))
    return value is None or any(one != own[tuple(setting[at] for at in deeds + asked)]
                                for setting, one in zip(settings(sizes), value))


def model_table(paper, model, lot, given):
    return paper == () and table(model, lot) == given


def model_effect(paper, model, deeds, asked, given):
    return paper == () and effect(model, deeds, asked) == given


def tell_alike(graph, sizes, told, tables):
    """Whether TABLES are as E2 asks, but for the chances of types."""
    parts = {}
    for lot, rows in zip(told, tables):
        if not sums_to_one(sizes, rows, lot):
            return False
        inner = tuple(one for one in lot if one in graph[2][0])
        for part in [(one,) for one in lot if one not in inner] + ([inner] if inner else []):
            span = span_of(graph, part)
            for setting, worth in q_by_ratios(sizes, rows, lot, part).items():
                if parts.setdefault((part, tuple(setting[one] for one in span)), worth) != worth:
                    return False
    return True


def sums_to_one(sizes, rows, lot):
    """Whether a table, summed over its lot, is 1 everywhere."""
    sums = {}
    for setting, one in zip(settings(sizes), rows):
        key = tuple(worth for at, worth in enumerate(setting) if at not in lot)
        sums[key] = sums.get(key, 0) + Fraction(*one)
    return set(sums.values()) == {1}


def are_weights_for(graph, sizes, told, tables, question, chance, weights):
    """Whether weights tell the tables and have the chance."""
    types(graph, sizes)
    if not is_ratio(chance) or any(one[0] == 0 for row in tables for one in row):
        return False
    if type(weights) is not tuple or not all(len(one) == 2 and is_ratio(one[1]) for one in weights):
        return False
    if not are_right_weights(graph, sizes, told, tables, weights) or not tell_alike(graph, sizes, told, tables):
        return False
    return chance_by_weights(costs_by_look(graph, sizes, told, tables, question), weights) == Fraction(*chance)


def is_ratio(value):
    """Whether it is a RATIO."""
    return type(value) is tuple and len(value) == 2 and value[1] > 0 and pair(Fraction(*value)) == value


def is_told_right(graph, sizes, told, tables, question):
    """Whether the arguments ahead are right ones."""
    deeds, asked, setting = question
    is_identified(graph, told, deeds, asked)
    value_of(graph, sizes, told, tables, ("told", 0))
    every = {one for lot in told for one in lot}
    return (type(setting) is tuple and len(setting) == len(deeds + asked)
            and all(worth in range(sizes[one]) for one, worth in zip(deeds + asked, setting))
            and every | set(graph[2][0]) == set(range(len(sizes))))


def met(paper, graph, sizes, told, tables, question, chance):
    return (is_told_right(graph, sizes, told, tables, question)
            and are_weights_for(graph, sizes, told, tables, question, chance, paper))


def least(paper, *things):
    return is_end(paper, things, 1)


def greatest(paper, *things):
    return is_end(paper, things, -1)


def is_end(paper, things, sign):
    graph, sizes, told, tables, question, chance = things
    weights, shares = paper
    if not met(weights, *things):
        return False
    first, rows = shares
    told_rows = part_rows(graph, sizes, told, tables)
    if type(rows) is not tuple or any(type(row) is not tuple for row in rows) or len(rows) != len(told_rows):
        return False
    if not all(is_ratio(one) for one in (first,) + tuple(one for row in rows for one in row)):
        return False
    costs = costs_by_look(graph, sizes, told, tables, question)
    givens = shares_givens(graph, sizes, told, tables, shares)
    return (shares_worth(graph, sizes, told, tables, shares) == Fraction(*chance)
            and all(sign * givens[kind] <= sign * costs[kind] for kind in costs))


def changes(value):
    """All that comes of a value if some thing in it, or it itself, is otherwise in just one thing."""
    if type(value) is int:
        yield from (value + 1, value - 1, -value, value + 2 ** 70, bool(value), (value,), str(value), None)
    elif type(value) is str:
        yield from (value + "s", value[:-1], value.upper(), value.encode(), (value,), None, "met", "")
    else:
        yield from (list(value), value + (0,), value + ((),), value + value[-1:], value[:-1], value[1:], value[::-1], None, 0,
                    "", (value,))
        if len(value) == 2 and all(type(one) is int for one in value):
            yield from ((2 * value[0], 2 * value[1]), (-value[0], -value[1]), (value[1], value[0]))
        if not value:
            yield from ([], {}, "", set(), frozenset(), b"", False, 0, ((),))
        for at, one in enumerate(value):
            for other in changes(one):
                yield value[:at] + (other,) + value[at + 1:]


def wrong_everywhere(value):
    """What comes of a value if it, or a thing just within it, is made something else altogether."""
    yield from WRONG
    if type(value) is tuple:
        for at in range(len(value)):
            for one in WRONG:
                yield value[:at] + (one,) + value[at + 1:]
