"""Ancestors, districts, what effects need, and Tian's rounds ([B3], [C1] to [C3])."""

from causaleffects.errors import InvalidLot, NotWithin
from causaleffects.formulas import need_asked
from causaleffects.graphs import need_graph, need_lot
from causaleffects.lots import (ancestors_in, districts_of, is_joined, is_within, needed_districts, needed_lot,
                                rounds_of)


def ancestors(graph, lot, starts):
    """The ancestors of some variables within a lot."""
    need_graph(graph)
    need_lot(graph, lot)
    need_lot(graph, starts)
    need_within(starts, lot)
    return ancestors_in(graph, lot, starts)


def districts(graph, lot):
    """The districts of a lot, ascending."""
    need_graph(graph)
    need_lot(graph, lot)
    return districts_of(graph, lot)


def needed(graph, deeds, asked):
    """The lot of the ancestors of what is asked within all variables but the deeds."""
    need_graph(graph)
    need_asked(graph, deeds, asked)
    return needed_lot(graph, deeds, asked)


def needs(graph, deeds, asked):
    """The districts that an effect needs, ascending."""
    need_graph(graph)
    need_asked(graph, deeds, asked)
    return needed_districts(graph, deeds, asked)


def rounds(graph, lot, ends):
    """The lots of Tian's rounds from a lot to the district ENDS."""
    need_graph(graph)
    need_lot(graph, lot)
    need_joined(graph, ends)
    need_within(ends, lot)
    return rounds_of(graph, lot, ends)


def greatest_hedge(graph, lot, ends):
    """The greatest hedge of the district ENDS within a lot, None if there is none."""
    last = rounds(graph, lot, ends)[-1]
    if last == ends:
        return None
    return last


def need_joined(graph, lot):
    """Refuse what is no LOT of the graph, or is not one district of itself."""
    need_lot(graph, lot)
    if not is_joined(graph, lot):
        raise InvalidLot(lot)


def need_within(part, lot):
    """Refuse a lot that is not within another one."""
    if not is_within(part, lot):
        raise NotWithin(part)
