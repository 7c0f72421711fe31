"""Lots of variables within a graph: ancestors, districts, Tian's rounds, hedges ([B3], [C1] to [C3], [D1]).

Nothing is checked here: each graph is a GRAPH, each lot a LOT of it.
"""


def is_within(part, lot):
    """Whether a lot has all that is in a part."""
    return all([one in lot for one in part])


def without(lot, part):
    """What a lot has and the part hasn't."""
    return tuple([one for one in lot if one not in part])


def union(one, other):
    """What is in either of two lots."""
    return tuple(sorted(set(one + other)))


def all_lots(count):
    """All lots of indexes below count, ascending."""
    found = [()]
    for one in range(count):
        found = found + [(*lot, one) for lot in found]
    return sorted(found)


def ancestors_in(graph, lot, starts):
    """The ancestors of some variables of the lot within it."""
    found = []
    # Arrows lead to later variables, so from the last one down whatever it leads to is known already.
    for one in reversed(lot):
        if one in starts or any([(one, other) in graph[1] for other in found]):
            found.append(one)
    return tuple(sorted(found))


def is_ancestral(graph, lot, part):
    """Whether a part of the lot has all its ancestors within it."""
    return ancestors_in(graph, lot, part) == part


def district_of(graph, lot, start):
    """The district of the lot that has this variable of it."""
    found = [start]
    waiting = [start]
    while waiting:
        one = waiting.pop()
        for other in lot:
            if other not in found and any([one in both and other in both for both in graph[2]]):
                found.append(other)
                waiting.append(other)
    return tuple(sorted(found))


def districts_of(graph, lot):
    """The districts of the lot, ascending."""
    found = []
    left = lot
    while left:
        found.append(district_of(graph, lot, left[0]))
        left = without(left, found[-1])
    return tuple(found)


def is_joined(graph, lot):
    """Whether the lot is one district of itself."""
    return lot != () and district_of(graph, lot, lot[0]) == lot


def is_whole(graph, lot, part):
    """Whether a part of the lot is made of whole districts of it."""
    return all([is_within(one, part) for one in districts_of(graph, lot) if without(one, part) != one])


def is_step(graph, lot, part):
    """Whether a step leads from the lot to this one ([C5])."""
    if part == () or part == lot or not is_within(part, lot):
        return False
    return is_ancestral(graph, lot, part) or is_whole(graph, lot, part)


def needed_lot(graph, deeds, asked):
    """The lot D of [C1]: the ancestors of what is asked within all variables but the deeds."""
    return ancestors_in(graph, without(tuple(range(len(graph[0]))), deeds), asked)


def needed_districts(graph, deeds, asked):
    """The districts that the effect needs, ascending."""
    return districts_of(graph, needed_lot(graph, deeds, asked))


def rounds_of(graph, lot, ends):
    """The lots of Tian's rounds from a lot to a part of it that is one district of itself."""
    found = [lot]
    start = None
    while start != found[-1]:
        start = found[-1]
        district = district_of(graph, start, ends[0])
        if district != start:
            found.append(district)
        ancestral = ancestors_in(graph, district, ends)
        if ancestral != district:
            found.append(ancestral)
    return tuple(found)


def tells(graph, lot, district):
    """Whether the table of the lot tells that of the district ([C4])."""
    return is_within(district, lot) and rounds_of(graph, lot, district)[-1] == district


def is_hedge_in(graph, small, great, within):
    """Whether one lot is a hedge of a small one within a lot ([D1])."""
    if great == small or not is_within(small, great) or not is_within(great, within):
        return False
    return is_joined(graph, small) and is_joined(graph, great) and ancestors_in(graph, great, small) == great
