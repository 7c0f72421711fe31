"""The form of models: sizes, settings, states and rows ([A2], [A3])."""

from causaleffects.errors import InvalidModel
from causaleffects.graphs import hidden_at, is_graph, parents_at
from causaleffects.ratios import are_chances

LEAST_SIZE = 2
GREATEST_SIZE = 4
MOST_SETTINGS = 1024
MOST_STATES = 64
MOST_CHANCES = 100000


def is_model(value):
    """Whether a value, whatever it is, is a MODEL."""
    if type(value) is not tuple or len(value) != 4:
        return False
    graph, sizes, hidden, rows = value
    return (is_graph(graph) and is_sizes(graph, sizes) and is_hidden(graph, hidden)
            and are_all_rows(graph, sizes, hidden, rows))


def need_model(model):
    """Refuse what is no MODEL."""
    if not is_model(model):
        raise InvalidModel(model)


def is_sizes(graph, value):
    """Whether a value, whatever it is, is SIZES of the graph."""
    if type(value) is not tuple or len(value) != len(graph[0]):
        return False
    if not all(type(one) is int and LEAST_SIZE <= one <= GREATEST_SIZE for one in value):
        return False
    return multiplied(value) <= MOST_SETTINGS


def is_hidden(graph, value):
    """Whether a value, whatever it is, tells the chances of the states of each hidden lot."""
    if type(value) is not tuple or len(value) != len(graph[2]):
        return False
    return all(type(one) is tuple and 1 <= len(one) <= MOST_STATES and are_chances(one) for one in value)


def are_all_rows(graph, sizes, hidden, value):
    """Whether a value, whatever it is, tells the rows of each variable."""
    if type(value) is not tuple or len(value) != len(sizes):
        return False
    counts = [row_count(graph, sizes, hidden, variable) for variable in range(len(sizes))]
    # Counted ahead of a look at the chances, as there may be too many of them to look at.
    if sum([count * size for count, size in zip(counts, sizes)]) > MOST_CHANCES:
        return False
    return all([are_rows(count, size, rows) for count, size, rows in zip(counts, sizes, value)])


def are_rows(count, size, value):
    """Whether a value, whatever it is, is a tuple of so many rows of chances of this size."""
    if type(value) is not tuple or len(value) != count:
        return False
    return all(type(row) is tuple and len(row) == size and are_chances(row) for row in value)


def row_count(graph, sizes, hidden, variable):
    """How many rows a variable has."""
    return multiplied([sizes[one] for one in parents_at(graph, variable)]) * multiplied(
        [len(hidden[at]) for at in hidden_at(graph, variable)])


def multiplied(numbers):
    """The product of numbers, 1 for none."""
    found = 1
    for one in numbers:
        found = found * one
    return found


def settings(spans):
    """All rows of values, each from 0 on and below its span, ascending."""
    rows = [()]
    for span in spans:
        rows = [(*row, worth) for row in rows for worth in range(span)]
    return rows
