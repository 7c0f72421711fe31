"""What the points on identification say, looked up the long way: closures, and looks through all lots."""

import random
from itertools import combinations

from helpers import EIGHT, some_model


def lots_of(count):
    """All LOTs of so many variables."""
    return [lot for size in range(count + 1) for lot in combinations(range(count), size)]


def part_lots(lot):
    """All lots within a lot."""
    return [part for size in range(len(lot) + 1) for part in combinations(lot, size)]


def drawn_graph(source, count, most_lots=12, pairs=0.6):
    """A graph of so many variables with arrows and hidden lots drawn from a source."""
    thick = source.random()
    arrows = tuple(pair for pair in combinations(range(count), 2) if source.random() < thick)
    sets = lots_of(count)[count + 1:]
    if source.random() < pairs:
        sets = [lot for lot in sets if len(lot) == 2]
    many = min(len(sets), source.randint(0, most_lots), 28)
    return (EIGHT[:count], arrows, tuple(sorted(source.sample(sets, many))))


def drawn_told(source, count):
    """From one to six told lots, the whole one among them now and then."""
    every = lots_of(count)[1:]
    told = source.sample(every, min(len(every), source.randint(1, 6)))
    if source.random() < 0.5 and every[-1] not in told:
        told[source.randrange(len(told))] = every[-1]
    return tuple(told)


def drawn_asked(source, count):
    """Deeds and what is asked."""
    order = source.sample(range(count), count)
    split = source.randint(1, min(count, 3))
    end = source.randint(split, count)
    return tuple(sorted(order[split:end])), tuple(sorted(order[:split]))


def drawn_questions(seed, many, most, **limits):
    """So many questions (GRAPH, TOLD, DEEDS, ASKED), of graphs of up to most variables."""
    source = random.Random(seed)
    for _ in range(many):
        count = source.randint(1, most)
        graph = drawn_graph(source, count, **limits)
        yield (graph, drawn_told(source, count)) + drawn_asked(source, count)


def drawn_model(graph, seed, most_states=2, size=2):
    """A positive model of a graph; few of its hidden lots have many states."""
    source = random.Random(seed)
    states = [source.randint(1, most_states) if len(graph[2]) < 9 or source.random() < 0.3 else 1 for _ in graph[2]]
    sizes = [source.randint(2, size) for _ in graph[0]]
    return some_model(graph, sizes, states, seed)


def closure(lot, related):
    """All pairs of a lot that a chain of related ones joins, each with itself too."""
    found = {(one, other): one == other or related(one, other) for one in lot for other in lot}
    for middle in lot:
        for one in lot:
            for other in lot:
                if found[one, middle] and found[middle, other]:
                    found[one, other] = True
    return found


def ancestors_by_closure(graph, lot, starts):
    """The ancestors of some variables within a lot."""
    leads = closure(lot, lambda one, other: (one, other) in graph[1])
    return tuple(one for one in lot if any(leads[one, start] for start in starts))


def districts_by_closure(graph, lot):
    """The districts of a lot."""
    joins = closure(lot, lambda one, other: any({one, other} <= set(both) for both in graph[2]))
    return tuple(sorted({tuple(other for other in lot if joins[one, other]) for one in lot}))


def needed_by_closure(graph, deeds, asked):
    """The lot D."""
    rest = tuple(one for one in range(len(graph[0])) if one not in deeds)
    return ancestors_by_closure(graph, rest, asked)


def is_joined(graph, lot):
    """Whether a lot is one district of itself."""
    return districts_by_closure(graph, lot) == (lot,)


def is_rooted(graph, small, great):
    """Whether a lot is one district of itself and ancestral to a small lot, which is within it and may be it."""
    return set(small) <= set(great) and is_joined(graph, great) and ancestors_by_closure(graph, great, small) == great


def hedges_by_look(graph, small, within):
    """All hedges of a small lot within a lot."""
    if not set(small) <= set(within) or not is_joined(graph, small):
        return []
    return [lot for lot in part_lots(within) if lot != small and is_rooted(graph, small, lot)]


def tells_by_look(graph, lot, district):
    """Whether there is no hedge of the district within the lot, which has it."""
    return set(district) <= set(lot) and not hedges_by_look(graph, district, lot)


def untold_by_look(graph, told, deeds, asked):
    """The districts that the effect needs and no told lot tells."""
    districts = districts_by_closure(graph, needed_by_closure(graph, deeds, asked))
    return [one for one in districts if not any(tells_by_look(graph, lot, one) for lot in told)]


def is_step_by_closure(graph, lot, part):
    """Whether a step leads from a lot to another one."""
    if not part or not set(part) < set(lot):
        return False
    ancestral = ancestors_by_closure(graph, lot, part) == part
    return ancestral or all(set(one) <= set(part) or not set(one) & set(part) for one in districts_by_closure(graph, lot))


def count_parts(formula):
    """How many parts a FORMULA has."""
    if formula[0] == "told":
        return 1
    return 1 + sum(count_parts(one) for one in formula[1:] if one and type(one[0]) is str)


def depth_of(formula):
    """How deep a FORMULA is."""
    if formula[0] == "told":
        return 1
    return 1 + max(depth_of(one) for one in formula[1:] if one and type(one[0]) is str)


def factors_of(formula):
    """The most factors of a product in a FORMULA."""
    if formula[0] == "told":
        return 0
    inner = max(factors_of(one) for one in formula[1:] if one and type(one[0]) is str)
    return max(inner, len(formula) - 1 if formula[0] == "times" else 0)
