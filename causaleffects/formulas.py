"""Told lots, what is asked, and formulas over told lots ([A4])."""

from causaleffects.errors import InvalidAsked, InvalidFormula, InvalidTold
from causaleffects.graphs import is_lot, need_lot

MOST_TOLD = 6
MOST_FACTORS = 8
DEEPEST = 60
MOST_PARTS = 4000


def need_told(graph, told):
    """Refuse what is no TOLD of the graph."""
    if type(told) is not tuple or not 1 <= len(told) <= MOST_TOLD:
        raise InvalidTold(None)
    for at, lot in enumerate(told):
        if not is_lot(len(graph[0]), lot) or lot == () or lot in told[:at]:
            raise InvalidTold(at)


def need_asked(graph, deeds, asked):
    """Refuse what are no LOTs, and what cannot be asked of them."""
    need_lot(graph, deeds)
    need_lot(graph, asked)
    if asked == () or any(one in deeds for one in asked):
        raise InvalidAsked(asked)


def need_formula(graph, told, formula):
    """Refuse what is no FORMULA over the told LOTs."""
    if not is_formula(graph, told, formula):
        raise InvalidFormula(formula)


def is_formula(graph, told, value):
    """Whether a value, whatever it is, is a FORMULA over the told LOTs."""
    waiting = [(value, 1)]
    parts = 0
    while waiting:
        part, depth = waiting.pop()
        parts += 1
        # A value may have one and the same part in many places, so it has to end at the limits.
        if parts > MOST_PARTS or depth > DEEPEST or not is_part(graph, told, part):
            return False
        waiting.extend([(inner, depth + 1) for inner in inner_parts(part)])
    return True


def is_part(graph, told, value):
    """Whether a value is a FORMULA, if its inner parts are such."""
    if type(value) is not tuple or len(value) < 2 or type(value[0]) is not str:
        return False
    word = value[0]
    if word == "told":
        return len(value) == 2 and type(value[1]) is int and 0 <= value[1] < len(told)
    if word == "sum":
        return len(value) == 3 and is_lot(len(graph[0]), value[1])
    if word == "over":
        return len(value) == 3
    return word == "times" and 3 <= len(value) <= MOST_FACTORS + 1


def inner_parts(part):
    """The parts that stand just within one."""
    if part[0] == "told":
        return ()
    if part[0] == "sum":
        return part[2:]
    return part[1:]
