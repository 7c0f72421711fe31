"""Which effects told tables tell, by derivations and formulas ([C4], [C5], [C7])."""

from causaleffects.derivations import effect_formula, first_untold, formula_of_way, helpful_rows, is_way, some_way
from causaleffects.errors import InvalidDerivation
from causaleffects.formulas import need_asked, need_told
from causaleffects.graphs import need_graph
from causaleffects.lots import all_lots, is_within, needed_districts, rounds_of, tells


def is_identified(graph, told, deeds, asked):
    """Whether the told lots identify the effect."""
    need_question(graph, told, deeds, asked)
    return first_untold(graph, told, deeds, asked) is None


def helpful(graph, told, deeds, asked):
    """For each district that the effect needs the indexes of the told lots that tell it."""
    need_question(graph, told, deeds, asked)
    return helpful_rows(graph, told, deeds, asked)


def derivation(graph, told, deeds, asked):
    """A derivation of the effect, None if there is none."""
    need_question(graph, told, deeds, asked)
    if first_untold(graph, told, deeds, asked) is not None:
        return None
    return some_way(graph, told, deeds, asked)


def is_derivation(graph, told, deeds, asked, value):
    """Whether a value, whatever it is, is a derivation of the effect."""
    need_question(graph, told, deeds, asked)
    return is_way(graph, told, deeds, asked, value)


def formula(graph, told, deeds, asked):
    """A FORMULA that has the effect as its value in every positive model: that along `derivation`."""
    need_question(graph, told, deeds, asked)
    return effect_formula(graph, told, deeds, asked)


def formula_along(graph, told, deeds, asked, value):
    """The FORMULA of the effect along a derivation."""
    need_question(graph, told, deeds, asked)
    if not is_way(graph, told, deeds, asked, value):
        raise InvalidDerivation(value)
    return formula_of_way(graph, deeds, asked, value)


def stuck(graph, told, deeds, asked):
    """The first district that no told lot tells, and its greatest hedges in those that have it; None for none."""
    need_question(graph, told, deeds, asked)
    return stuck_at(graph, told, deeds, asked)


def least_told(graph, told, deeds, asked):
    """The least lots of indexes of told lots by which the effect is identified, ascending."""
    need_question(graph, told, deeds, asked)
    rows = helpful_rows(graph, told, deeds, asked)
    enough = [lot for lot in all_lots(len(told)) if all([meet(lot, indexes) for _, indexes in rows])]
    return tuple([lot for lot in enough if not any([one != lot and is_within(one, lot) for one in enough])])


def single_lots(graph, deeds, asked):
    """All LOTs that identify the effect alone, ascending."""
    need_graph(graph)
    need_asked(graph, deeds, asked)
    districts = needed_districts(graph, deeds, asked)
    every = all_lots(len(graph[0]))
    return tuple([lot for lot in every if all([tells(graph, lot, district) for district in districts])])


def need_question(graph, told, deeds, asked):
    """Refuse what is no GRAPH, no TOLD of it, or cannot be asked of it."""
    need_graph(graph)
    need_told(graph, told)
    need_asked(graph, deeds, asked)


def stuck_at(graph, told, deeds, asked):
    """As stuck, of what is known to be right."""
    district = first_untold(graph, told, deeds, asked)
    if district is None:
        return None
    ends = [rounds_of(graph, lot, district)[-1] for lot in told if is_within(district, lot)]
    return (district, tuple(sorted(set(ends))))


def meet(lot, other):
    """Whether two lots have a common index."""
    return any([one in other for one in lot])
