"""Types of answers of the variables of a graph's one hidden lot ([E1]); a type is called a kind here."""

from causaleffects.errors import InvalidGraph, TooMany
from causaleffects.graphs import need_graph, parents_at
from causaleffects.modelforms import multiplied, settings

MOST_KINDS = 256


def need_one_hidden_lot(graph):
    """Refuse what is no GRAPH, or one that has not just one hidden lot."""
    need_graph(graph)
    if len(graph[2]) != 1:
        raise InvalidGraph(graph)


def need_few_kinds(graph, sizes):
    """Refuse more kinds than may be."""
    count = multiplied([sizes[one] for one in graph[2][0] for _ in range(answer_count(graph, sizes, one))])
    if count > MOST_KINDS:
        raise TooMany(count)


def all_kinds(graph, sizes):
    """All kinds, ascending."""
    kinds = [()]
    for one in graph[2][0]:
        rows = settings([sizes[one] for _ in range(answer_count(graph, sizes, one))])
        kinds = [(*kind, row) for kind in kinds for row in rows]
    return kinds


def is_kind(graph, sizes, value):
    """Whether a value, whatever it is, is a kind."""
    lot = graph[2][0]
    if type(value) is not tuple or len(value) != len(lot):
        return False
    return all([are_answers(graph, sizes, one, row) for one, row in zip(lot, value)])


def are_answers(graph, sizes, variable, value):
    """Whether a value, whatever it is, has an answer of the variable for each setting of its parents."""
    if type(value) is not tuple or len(value) != answer_count(graph, sizes, variable):
        return False
    return all([type(one) is int and 0 <= one < sizes[variable] for one in value])


def answer_count(graph, sizes, variable):
    """How many answers a variable has to give."""
    return multiplied([sizes[one] for one in parents_at(graph, variable)])


def demand_of(graph, sizes, part, values):
    """What the variables of a part of the hidden lot have to answer where all have these values.

    Triples (PLACE, ROW, VALUE): the variable's place in the hidden lot, the number of its parents' setting, the answer.
    """
    found = []
    for one in part:
        row = number_of_setting(sizes, parents_at(graph, one), values)
        found.append((graph[2][0].index(one), row, values[one]))
    return tuple(found)


def number_of_setting(sizes, lot, values):
    """Which one of the settings of a lot, ascending, the values tell, from 0 on."""
    found = 0
    for one in lot:
        found = found * sizes[one] + values[one]
    return found


def meets(kind, demand):
    """Whether a kind answers as the demand says."""
    return all([kind[place][row] == worth for place, row, worth in demand])
