"""What points E1 to E5 say, reckoned the long way: types listed, their chances, costs, and what shares add up to."""

import random
from fractions import Fraction
from itertools import combinations, product
from math import prod

from causaleffects.models import table
from helpers import EIGHT, chance_of, pair, q_at, settings, some_model
from looks import needed_by_closure


def parents_of(graph, variable):
    """The parents of a variable, ascending."""
    return [start for start, end in graph[1] if end == variable]


def type_count(graph, sizes):
    """How many types there are."""
    return prod(sizes[one] ** prod(sizes[parent] for parent in parents_of(graph, one)) for one in graph[2][0])


def types_by_look(graph, sizes):
    """All types, as E1 tells them."""
    answers = [product(range(sizes[one]), repeat=prod(sizes[parent] for parent in parents_of(graph, one)))
               for one in graph[2][0]]
    return list(product(*(list(rows) for rows in answers)))


def answer_of(graph, sizes, kind, variable, setting):
    """What a variable of the hidden lot answers at a setting of all variables, the types being told one by one."""
    parents = parents_of(graph, variable)
    rows = settings([sizes[one] for one in parents])
    return kind[graph[2][0].index(variable)][rows.index(tuple(setting[one] for one in parents))]


def answers_so(graph, sizes, kind, part, setting):
    """Whether a type answers with the values of a part at a setting of all variables."""
    return all(answer_of(graph, sizes, kind, one, setting) == setting[one] for one in part)


def type_chances(model):
    """The chances of the types in a model: E2's mean over the states."""
    graph, sizes, hidden, _ = model
    lot = graph[2][0]
    found = {}
    for kind in types_by_look(graph, sizes):
        found[kind] = Fraction(0)
        for state, share in enumerate(hidden[0]):
            part = Fraction(*share)
            for one, answers in zip(lot, kind):
                parents = parents_of(graph, one)
                for row, answer in zip(settings([sizes[parent] for parent in parents]), answers):
                    setting = [0] * len(sizes)
                    for parent, worth in zip(parents, row):
                        setting[parent] = worth
                    setting[one] = answer
                    part *= chance_of(model, one, setting, (state,))
            found[kind] += part
    return found


def weights_of_model(model):
    """The WEIGHTS of a positive model: the chances of all types."""
    return tuple((kind, pair(chance)) for kind, chance in sorted(type_chances(model).items()) if chance)


def q_by_ratios(sizes, rows, lot, part):
    """What C2 tells of Q of a part made of whole districts of a lot, at each setting: ratios of sums of Q of the lot."""
    places = settings(sizes)
    told = {setting: Fraction(*one) for setting, one in zip(places, rows)}

    def summed(over):
        sums = {}
        keys = {setting: tuple(worth for at, worth in enumerate(setting) if at not in over) for setting in places}
        for setting in places:
            sums[keys[setting]] = sums.get(keys[setting], 0) + told[setting]
        return {setting: sums[keys[setting]] for setting in places}

    found = {setting: Fraction(1) for setting in places}
    for one in part:
        upper, lower = summed([other for other in lot if other > one]), summed([other for other in lot if other >= one])
        for setting in places:
            found[setting] *= upper[setting] / lower[setting]
    return found


def own_chances(graph, sizes, told, tables):
    """For each variable out of the hidden lot what the first told lot that has it tells of it, at each setting."""
    found = {}
    for lot, rows in zip(told, tables):
        for one in lot:
            if one not in graph[2][0] and one not in found:
                found[one] = q_by_ratios(sizes, rows, lot, (one,))
    return found


def parts_of(graph, told):
    """The unlike parts that told lots have in the hidden lot, but ()."""
    return sorted({tuple(one for one in lot if one in graph[2][0]) for lot in told} - {()})


def span_of(graph, part):
    """A part and its parents, ascending."""
    return sorted(set(part).union(*(parents_of(graph, one) for one in part)))


def part_rows(graph, sizes, told, tables):
    """For each part the pairs (SETTING of all variables, Q), one for each setting of the part and its parents."""
    found = []
    for part in parts_of(graph, told):
        lot, rows = next((lot, rows) for lot, rows in zip(told, tables)
                         if tuple(one for one in lot if one in graph[2][0]) == part)
        worth = q_by_ratios(sizes, rows, lot, part)
        span = span_of(graph, part)
        first = {}
        for setting in settings(sizes):
            first.setdefault(tuple(setting[one] for one in span), setting)
        found.append([(first[key], worth[first[key]]) for key in sorted(first)])
    return found


def costs_by_look(graph, sizes, told, tables, question):
    """The cost of each type, as E3 tells it."""
    deeds, asked, told_values = question
    own = own_chances(graph, sizes, told, tables)
    lot = needed_by_closure(graph, deeds, asked)
    free = [one for one in lot if one not in asked]
    found = {}
    for kind in types_by_look(graph, sizes):
        found[kind] = Fraction(0)
        for row in settings([sizes[one] for one in free]):
            setting = [0] * len(sizes)
            for one, worth in zip(deeds + asked + tuple(free), told_values + row):
                setting[one] = worth
            if answers_so(graph, sizes, kind, [one for one in lot if one in graph[2][0]], setting):
                found[kind] += prod((own[one][tuple(setting)] for one in lot if one not in graph[2][0]), start=Fraction(1))
    return found


def chance_by_weights(costs, weights):
    """The chance of what is asked by WEIGHTS."""
    return sum(Fraction(*share) * costs[kind] for kind, share in weights)


def are_right_weights(graph, sizes, told, tables, weights):
    """Whether it is WEIGHTS whose sums are Q of each part at each setting."""
    kinds = [kind for kind, _ in weights]
    if kinds != sorted(set(kinds)) or not set(kinds) <= set(types_by_look(graph, sizes)):
        return False
    if sum(Fraction(*share) for _, share in weights) != 1 or min(share[0] for _, share in weights) < 1:
        return False
    if any(pair(Fraction(*share)) != share for _, share in weights):
        return False
    for part, rows in zip(parts_of(graph, told), part_rows(graph, sizes, told, tables)):
        for setting, worth in rows:
            given = sum(Fraction(*share) for kind, share in weights if answers_so(graph, sizes, kind, part, setting))
            if given != worth:
                return False
    return True


def shares_worth(graph, sizes, told, tables, shares):
    """The worth of SHARES; None if they have not the form of such."""
    rows = part_rows(graph, sizes, told, tables)
    if [len(row) for row in rows] != [len(row) for row in shares[1]]:
        return None
    return Fraction(*shares[0]) + sum(
        Fraction(*one) * worth for row, part in zip(shares[1], rows) for one, (_, worth) in zip(row, part))


def shares_givens(graph, sizes, told, tables, shares):
    """The given of each type."""
    found = {kind: Fraction(*shares[0]) for kind in types_by_look(graph, sizes)}
    parts = parts_of(graph, told)
    for part, rows, row in zip(parts, part_rows(graph, sizes, told, tables), shares[1]):
        for (setting, _), one in zip(rows, row):
            for kind in found:
                if answers_so(graph, sizes, kind, part, setting):
                    found[kind] += Fraction(*one)
    return found


def drawn_bounded(source, most=4, most_types=256):
    """A graph with one hidden lot of two or three variables and sizes, with few enough types, drawn from a source."""
    while True:
        count = source.randint(2, most)
        thick = source.random()
        arrows = tuple(one for one in combinations(range(count), 2) if source.random() < thick)
        lot = tuple(sorted(source.sample(range(count), min(count, source.choice((2, 2, 2, 3))))))
        sizes = tuple(source.choice((2, 2, 2, 3)) for _ in range(count))
        graph = (EIGHT[:count], arrows, (lot,))
        if type_count(graph, sizes) <= most_types:
            return graph, sizes


def drawn_cover(source, graph, most=3):
    """From one to so many told lots, in which all variables out of the hidden lot are."""
    count = len(graph[0])
    while True:
        told = []
        for _ in range(source.randint(1, most)):
            lot = tuple(sorted(source.sample(range(count), source.randint(1, count))))
            if lot not in told:
                told.append(lot)
        if all(any(one in lot for lot in told) for one in range(count) if one not in graph[2][0]):
            return tuple(told)


def drawn_question(source, sizes):
    """A QUESTION."""
    count = len(sizes)
    order = source.sample(range(count), count)
    split = source.randint(1, min(2, count))
    end = source.randint(split, count)
    asked, deeds = tuple(sorted(order[:split])), tuple(sorted(order[split:end]))
    return deeds, asked, tuple(source.randrange(sizes[one]) for one in deeds + asked)


def drawn_programs(seed, many, most=4, most_types=256, states=4):
    """So many tuples (MODEL, GRAPH, SIZES, TOLD, TABLES, QUESTION)."""
    source = random.Random(seed)
    for at in range(many):
        graph, sizes = drawn_bounded(source, most, most_types)
        model = some_model(graph, sizes, (source.randint(1, states),), seed * 1000 + at)
        told = drawn_cover(source, graph)
        yield model, graph, sizes, told, tuple(table(model, lot) for lot in told), drawn_question(source, sizes)


def effect_at(model, question):
    """The chance of what is asked in a model, as B2 tells it."""
    deeds, asked, told_values = question
    sizes = model[1]
    fixed = dict(zip(deeds + asked, told_values))
    rest = tuple(one for one in range(len(sizes)) if one not in deeds)
    return sum(q_at(model, rest, setting) for setting in settings(sizes)
               if all(setting[one] == worth for one, worth in fixed.items()))
