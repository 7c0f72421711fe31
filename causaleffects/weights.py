"""WEIGHTS of types, the models by them, and SHARES of the rows of a program ([E1], [E2], [E5])."""

from causaleffects.graphs import ascends, parents_at
from causaleffects.kinds import is_kind
from causaleffects.modelforms import settings
from causaleffects.programs import costs_of, givers_of
from causaleffects.ratios import is_at_most, is_ratio, plus, times, total


def are_weights(graph, sizes, value):
    """Whether a value, whatever it is, is WEIGHTS."""
    if type(value) is not tuple or not all([is_weight(graph, sizes, one) for one in value]):
        return False
    return ascends([kind for kind, _ in value]) and total([share for _, share in value]) == (1, 1)


def is_weight(graph, sizes, value):
    """Whether a value, whatever it is, is a pair of a type and a RATIO above 0."""
    if type(value) is not tuple or len(value) != 2:
        return False
    kind, share = value
    return is_kind(graph, sizes, kind) and is_ratio(share) and share[0] > 0


def have_tables(program, weights):
    """Whether the model by WEIGHTS tells the tables of the program."""
    shares = {kind: share for kind, share in weights}
    for part in program.parts:
        for givers, chance in zip(givers_of(program, part), program.known[part]):
            kinds = [program.kinds[at] for at in givers]
            if total([shares[kind] for kind in kinds if kind in shares]) != chance:
                return False
    return True


def chance_of(program, question, weights):
    """The chance of what is asked in the model by WEIGHTS."""
    costs = dict(zip(program.kinds, costs_of(program, question)))
    return total([times(share, costs[kind]) for kind, share in weights])


def mixed(first, second, share):
    """The WEIGHTS of a share of the second ones and what is left of 1 of the first ones."""
    rest = (share[1] - share[0], share[1])
    found = {kind: times(rest, weight) for kind, weight in first}
    for kind, weight in second:
        found[kind] = plus(found.get(kind, (0, 1)), times(share, weight))
    return tuple([(kind, found[kind]) for kind in sorted(found) if found[kind][0] > 0])


def weighted_model(program, weights):
    """The MODEL by WEIGHTS: a state for each type."""
    graph, sizes = program.graph, program.sizes
    kinds = [kind for kind, _ in weights]
    rows = []
    for one, size in enumerate(sizes):
        if one in graph[2][0]:
            rows.append(sure_rows(size, [kind[graph[2][0].index(one)] for kind in kinds]))
        else:
            told = program.known[(one,)]
            rows.append(tuple([told[at * size:(at + 1) * size] for at in range(len(told) // size)]))
    return (graph, sizes, (tuple([share for _, share in weights]),), tuple(rows))


def sure_rows(size, answers):
    """The rows of a variable that answers surely: for each setting of its parents the row of each state."""
    every = [tuple([(int(worth == sure), 1) for worth in range(size)]) for sure in range(size)]
    return tuple([every[row[at]] for at in range(len(answers[0])) for row in answers])


def are_shares(program, value):
    """Whether a value, whatever it is, has the form of SHARES."""
    if type(value) is not tuple or len(value) != 2 or not is_ratio(value[0]):
        return False
    rows = value[1]
    if type(rows) is not tuple or len(rows) != len(program.parts):
        return False
    for part, row in zip(program.parts, rows):
        if type(row) is not tuple or len(row) != len(program.known[part]) or not all([is_ratio(one) for one in row]):
            return False
    return True


def worth_of(program, shares):
    """The worth of SHARES."""
    found = shares[0]
    for part, row in zip(program.parts, shares[1]):
        found = plus(found, total([times(one, chance) for one, chance in zip(row, program.known[part])]))
    return found


def givens_of(program, shares):
    """The given of each type."""
    handed = [[shares[0]] for _ in program.kinds]
    for part, row in zip(program.parts, shares[1]):
        for givers, one in zip(givers_of(program, part), row):
            for at in givers:
                handed[at].append(one)
    return [total(row) for row in handed]


def show_least(program, question, shares):
    """Whether no type's given is above its cost."""
    costs = costs_of(program, question)
    return all([is_at_most(given, cost) for given, cost in zip(givens_of(program, shares), costs)])


def show_greatest(program, question, shares):
    """Whether no type's given is below its cost."""
    costs = costs_of(program, question)
    return all([is_at_most(cost, given) for given, cost in zip(givens_of(program, shares), costs)])
