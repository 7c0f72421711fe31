"""What tables tell of the chances of types, where a graph has one hidden lot ([E1] to [E3])."""

from causaleffects.derivations import formula_of_districts
from causaleffects.errors import InvalidAsked, InvalidTables, NotIdentified
from causaleffects.formulas import need_told
from causaleffects.graphs import is_lot, parents_at
from causaleffects.kinds import all_kinds, demand_of, meets, need_few_kinds, need_one_hidden_lot, number_of_setting
from causaleffects.lots import districts_of, needed_lot, union, without
from causaleffects.modelforms import settings
from causaleffects.models import worths
from causaleffects.ratios import plus, times, total
from causaleffects.values import formula_value, need_sizes, need_tables, sum_value


class Program:
    """The told tables of a graph with one hidden lot, whatever chances the types have.

    `kinds` are the types, ascending, `parts` the unlike parts that told lots have in the hidden lot, but (), ascending.
    `known` has for each of these, and for each variable out of the hidden lot, as a lot, its told table: a RATIO for
    each setting of its `span`, which is the lot and its parents.
    """

    def __init__(self, graph, sizes, known):
        self.graph = graph
        self.sizes = sizes
        self.kinds = all_kinds(graph, sizes)
        self.known = known
        self.parts = [part for part in sorted(known) if part[0] in graph[2][0]]


def need_bounded(graph, sizes, told, tables, question):
    """Refuse what no bounds can be asked of."""
    need_told_tables(graph, sizes, told, tables)
    if not is_question(graph, sizes, question):
        raise InvalidAsked(question)
    need_bounds_there(graph, sizes, told)


def need_told_tables(graph, sizes, told, tables):
    """Refuse all but positive TABLES told of a graph with one hidden lot."""
    need_one_hidden_lot(graph)
    need_sizes(graph, sizes)
    need_told(graph, told)
    need_tables(sizes, told, tables)
    for at, one in enumerate(tables):
        if any([chance[0] == 0 for chance in one]):
            raise InvalidTables(at)


def need_bounds_there(graph, sizes, told):
    """Refuse told lots without some variable out of the hidden lot, and too many types."""
    for one in without(tuple(range(len(sizes))), graph[2][0]):
        if not any([one in lot for lot in told]):
            raise NotIdentified((one,))
    need_few_kinds(graph, sizes)


def is_question(graph, sizes, value):
    """Whether a value, whatever it is, is a QUESTION."""
    if type(value) is not tuple or len(value) != 3:
        return False
    deeds, asked, setting = value
    count = len(sizes)
    if not is_lot(count, deeds) or not is_lot(count, asked) or asked == () or without(asked, deeds) != asked:
        return False
    if type(setting) is not tuple or len(setting) != len(deeds) + len(asked):
        return False
    return all([type(worth) is int and 0 <= worth < sizes[one] for one, worth in zip(deeds + asked, setting)])


def program_of(graph, sizes, told, tables):
    """The Program of told tables; None if no model tells them, whatever chances the types have."""
    known = {}
    for at, lot in enumerate(told):
        if any([one != (1, 1) for one in sum_value(sizes, lot, tables[at])]):
            return None
        # With one hidden lot these are each variable out of it by itself, and the part in it.
        for part in districts_of(graph, lot):
            value = formula_value(sizes, tables, formula_of_districts(lot, part, ("told", at)))
            row = narrowed(sizes, span_of(graph, part), value)
            if row is None or known.setdefault(part, row) != row:
                return None
    return Program(graph, sizes, known)


def span_of(graph, part):
    """A lot and its parents."""
    span = part
    for one in part:
        span = union(span, parents_at(graph, one))
    return span


def narrowed(sizes, lot, value):
    """What a value is at each setting of a lot; None if it hangs on other variables, too."""
    found = {}
    for setting, one in zip(settings(sizes), value):
        if found.setdefault(worths(setting, lot), one) != one:
            return None
    return tuple([found[key] for key in sorted(found)])


def givers_of(program, part):
    """For each setting of a part's span the indexes of the types that answer so."""
    span = span_of(program.graph, part)
    found = []
    for row in settings([program.sizes[one] for one in span]):
        demand = demand_of(program.graph, program.sizes, part, dict(zip(span, row)))
        found.append([at for at, kind in enumerate(program.kinds) if meets(kind, demand)])
    return found


def costs_of(program, question):
    """The cost of each type for a QUESTION."""
    graph, sizes = program.graph, program.sizes
    deeds, asked, setting = question
    lot = needed_lot(graph, deeds, asked)
    free = without(lot, asked)
    outer = without(lot, graph[2][0])
    inner = without(lot, outer)
    sums = {}
    for row in settings([sizes[one] for one in free]):
        values = dict(zip(deeds + asked + free, setting + row))
        demand = demand_of(graph, sizes, inner, values)
        sums[demand] = plus(sums.get(demand, (0, 1)), told_chance(program, outer, values))
    return [total([chance for demand, chance in sums.items() if meets(kind, demand)]) for kind in program.kinds]


def told_chance(program, lot, values):
    """The product of the told chances of variables out of the hidden lot, where all have these values."""
    found = (1, 1)
    for one in lot:
        # Parents stand ahead, so these chances ascend by their settings and then by the variable's own value.
        span = span_of(program.graph, (one,))
        found = times(found, program.known[(one,)][number_of_setting(program.sizes, span, values)])
    return found
