"""Graphs, their lots, and which variables act on which ([A1])."""

from causaleffects.errors import InvalidGraph, InvalidLot, InvalidName

LETTERS = "abcdefghijklmnopqrstuvwxyz"
FIGURES = "0123456789"
WORDS = ("names", "arrows", "hidden", "sizes", "lot", "table", "told", "sum", "on")
MOST_SIGNS = 8
MOST_VARIABLES = 8
MOST_HIDDEN_LOTS = 28


def is_graph(value):
    """Whether a value, whatever it is, is a GRAPH."""
    if type(value) is not tuple or len(value) != 3:
        return False
    names, arrows, lots = value
    return are_names(names) and are_arrows(len(names), arrows) and are_hidden_lots(len(names), lots)


def is_lot_of(graph, value):
    """Whether a value, whatever it is, is a LOT of the graph."""
    need_graph(graph)
    return is_lot(len(graph[0]), value)


def index_of(graph, name):
    """The index of the variable with this name."""
    need_graph(graph)
    if type(name) is not str or name not in graph[0]:
        raise InvalidName(name)
    return graph[0].index(name)


def parents(graph, name):
    """The LOT of the variables from which arrows lead to this one."""
    return parents_at(graph, index_of(graph, name))


def children(graph, name):
    """The LOT of the variables to which arrows lead from this one."""
    start = index_of(graph, name)
    return tuple(arrow[1] for arrow in graph[1] if arrow[0] == start)


def hidden_lots(graph, name):
    """The hidden lots that have the variable, ascending."""
    variable = index_of(graph, name)
    return tuple(lot for lot in graph[2] if variable in lot)


def parents_at(graph, variable):
    """The LOT of the parents of the variable with this index."""
    return tuple(arrow[0] for arrow in graph[1] if arrow[1] == variable)


def hidden_at(graph, variable):
    """The indexes of the hidden lots that have the variable with this index."""
    return tuple([at for at, lot in enumerate(graph[2]) if variable in lot])


def need_graph(graph):
    """Refuse what is no GRAPH."""
    if not is_graph(graph):
        raise InvalidGraph(graph)


def need_lot(graph, lot):
    """Refuse what is no LOT of the graph."""
    if not is_lot(len(graph[0]), lot):
        raise InvalidLot(lot)


def is_name(value):
    """Whether a value, whatever it is, can be the name of a variable."""
    if type(value) is not str or value in WORDS or not 1 <= len(value) <= MOST_SIGNS:
        return False
    return value[0] in LETTERS and all(sign in LETTERS or sign in FIGURES for sign in value)


def is_lot(count, value):
    """Whether a value, whatever it is, is an ascending tuple of indexes below count."""
    if type(value) is not tuple:
        return False
    return all(type(one) is int and 0 <= one < count for one in value) and ascends(value)


def ascends(row):
    """Whether each thing of a row is less than the one behind it."""
    return all([row[at] < row[at + 1] for at in range(len(row) - 1)])


def are_names(value):
    """Whether a value, whatever it is, can be the names of a graph."""
    if type(value) is not tuple or not 1 <= len(value) <= MOST_VARIABLES:
        return False
    return all(is_name(one) for one in value) and len(set(value)) == len(value)


def are_arrows(count, value):
    """Whether a value, whatever it is, can be the arrows between so many variables."""
    if type(value) is not tuple:
        return False
    return all(is_lot(count, one) and len(one) == 2 for one in value) and ascends(value)


def are_hidden_lots(count, value):
    """Whether a value, whatever it is, can be the hidden lots of so many variables."""
    if type(value) is not tuple or len(value) > MOST_HIDDEN_LOTS:
        return False
    return all(is_lot(count, one) and len(one) >= 2 for one in value) and ascends(value)
