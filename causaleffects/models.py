"""Tables and effects of models, in exact ratios ([B1], [B2])."""

from causaleffects.factors import state_factor, summed_out, variable_factor
from causaleffects.formulas import need_asked
from causaleffects.graphs import need_lot
from causaleffects.modelforms import need_model, settings
from causaleffects.ratios import plus, ratio


def is_positive(model):
    """Whether all chances of a MODEL are above 0."""
    need_model(model)
    return all_above(model[2]) and all(all_above(rows) for rows in model[3])


def table(model, lot):
    """The table Q[lot] of a MODEL: a chance for each setting of all variables."""
    need_model(model)
    need_lot(model[0], lot)
    return table_of(model, lot)


def effect(model, deeds, asked):
    """P(asked | do deeds) in a MODEL: a chance for each setting of the deeds and then of what is asked."""
    need_model(model)
    graph, sizes = model[0], model[1]
    need_asked(graph, deeds, asked)
    chances = table_of(model, tuple([one for one in range(len(sizes)) if one not in deeds]))
    sums = {}
    for setting, chance in zip(settings(sizes), chances):
        key = (worths(setting, deeds), worths(setting, asked))
        sums[key] = plus(sums.get(key, (0, 1)), chance)
    done = settings([sizes[one] for one in deeds])
    come = settings([sizes[one] for one in asked])
    return tuple([sums[(deed, answer)] for deed in done for answer in come])


def all_above(rows):
    """Whether all chances in the rows are above 0."""
    return all([chance[0] > 0 for row in rows for chance in row])


def table_of(model, lot):
    """As table, of what is known to be a MODEL and a LOT."""
    graph, sizes, hidden, _ = model
    factors = [state_factor(model, at) for at, both in enumerate(graph[2]) if any([one in lot for one in both])]
    factors = factors + [variable_factor(model, variable) for variable in lot]
    parts = summed_out(factors, sizes, [len(row) for row in hidden])
    return tuple([chance_at(parts, setting) for setting in settings(sizes)])


def chance_at(parts, setting):
    """The product of factors without hidden lots at a setting of all variables."""
    above = 1
    below = 1
    for part in parts:
        divisor, numbers = part.cells[worths(setting, part.seen)]
        above = above * numbers[0]
        below = below * divisor
    return ratio(above, below)


def worths(setting, lot):
    """The values of the variables of a lot in a setting of all variables."""
    return tuple([setting[variable] for variable in lot])
