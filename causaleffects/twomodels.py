"""Hedges, their modes, and two models that are alike in all that is told ([D1] to [D5])."""

from causaleffects.errors import Identified, InvalidHedges, InvalidLot
from causaleffects.graphs import is_lot, need_graph, need_lot
from causaleffects.identify import need_question, stuck_at
from causaleffects.leaning import leaning_models
from causaleffects.lots import is_hedge_in, is_joined
from causaleffects.modes import counted_modes

MOST_HEDGES = 6


def is_hedge(graph, small, great, within):
    """Whether one lot is a hedge of a small one within a lot."""
    need_graph(graph)
    need_lot(graph, small)
    need_lot(graph, great)
    need_lot(graph, within)
    return is_hedge_in(graph, small, great, within)


def modes(graph, small, hedges):
    """The pairs (LOT, COUNT) of the modes of hedges of a small lot, ascending."""
    need_graph(graph)
    need_lot(graph, small)
    if not is_joined(graph, small):
        raise InvalidLot(small)
    need_hedges(graph, small, hedges)
    return counted_modes(small, hedges)


def two_models(graph, told, deeds, asked):
    """Two positive models, alike in all told tables and unlike in the effect for each setting of the deeds."""
    need_question(graph, told, deeds, asked)
    found = stuck_at(graph, told, deeds, asked)
    if found is None:
        raise Identified()
    return leaning_models(graph, deeds, asked, found[0], found[1])


def need_hedges(graph, small, hedges):
    """Refuse what is no tuple of up to 6 hedges of the small lot within all variables."""
    if type(hedges) is not tuple or len(hedges) > MOST_HEDGES:
        raise InvalidHedges(None)
    count = len(graph[0])
    for at, one in enumerate(hedges):
        if not is_lot(count, one) or not is_hedge_in(graph, small, one, tuple(range(count))):
            raise InvalidHedges(at)
