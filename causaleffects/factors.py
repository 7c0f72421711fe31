"""Sums, over the states of hidden lots, of products of chances ([B1]).

Lots of states are summed out one after the other, each as soon as no other factor has it; summing over
whole rows of states of all hidden lots would take too long where there are many lots.
"""

from math import gcd, lcm

from causaleffects.graphs import hidden_at, parents_at
from causaleffects.modelforms import multiplied, settings


class Factor:
    """Numbers that hang on values of the variables `seen` and on states of hidden lots `hidden`.

    For each setting of `seen`, `cells` has a pair (DIVISOR, NUMBERS): a whole number for each row of
    states of `hidden`, ascending, each meant by the common divisor.
    """

    def __init__(self, seen, hidden, cells):
        self.seen = seen
        self.hidden = hidden
        self.cells = cells


def state_factor(model, at):
    """The chances of the states of the hidden lot with this index."""
    return Factor((), (at,), {(): whole_numbers(model[2][at])})


def variable_factor(model, variable):
    """The chances of the values of a variable."""
    graph, sizes, hidden, rows = model
    heads = parents_at(graph, variable)
    lots = hidden_at(graph, variable)
    states = multiplied([len(hidden[at]) for at in lots])
    cells = {}
    for at, setting in enumerate(settings([sizes[one] for one in heads])):
        told = rows[variable][at * states:(at + 1) * states]
        for worth in range(sizes[variable]):
            place = (*setting, worth)
            cells[place] = whole_numbers([row[worth] for row in told])
    return Factor((*heads, variable), lots, cells)


def summed_out(factors, sizes, states):
    """Factors without hidden lots, whose product is that of the factors, summed over all rows of states.

    Each hidden lot of a factor has to be one of another factor, too; states tell how many each lot has.
    """
    left = list(factors)
    pair = cheapest_pair(left, sizes, states)
    while pair is not None:
        first, second = pair
        rest = [factor for at, factor in enumerate(left) if at not in (first, second)]
        left = [*rest, joined(left[first], left[second], rest, sizes, states)]
        pair = cheapest_pair(left, sizes, states)
    return left


def cheapest_pair(factors, sizes, states):
    """The indexes of two factors with a common hidden lot that are least to multiply, None if there are none."""
    best = None
    least = 0
    for second, other in enumerate(factors):
        for first, one in enumerate(factors[:second]):
            if any(at in one.hidden for at in other.hidden):
                work = joint_size(one, other, sizes, states)
                if best is None or work < least:
                    best = (first, second)
                    least = work
    return best


def joint_size(one, other, sizes, states):
    """How many products there are to make of two factors."""
    seen = multiplied([sizes[variable] for variable in joint(one.seen, other.seen)])
    return seen * multiplied([states[at] for at in joint(one.hidden, other.hidden)])


def joint(one, other):
    """What two ascending tuples have, ascending."""
    return tuple(sorted(set(one + other)))


def joined(one, other, rest, sizes, states):
    """The product of two factors, summed over the hidden lots that none of the rest has."""
    seen = joint(one.seen, other.seen)
    both = joint(one.hidden, other.hidden)
    kept = tuple([at for at in both if any([at in factor.hidden for factor in rest])])
    gone = tuple([at for at in both if at not in kept])
    outer = places(kept, one.hidden, other.hidden, states)
    inner = places(gone, one.hidden, other.hidden, states)
    cells = {}
    for setting in settings([sizes[variable] for variable in seen]):
        divisor, numbers = one.cells[part_of(setting, seen, one.seen)]
        divider, figures = other.cells[part_of(setting, seen, other.seen)]
        sums = [sum([numbers[left + low] * figures[right + high] for low, high in inner]) for left, right in outer]
        cells[setting] = lowest(divisor * divider, sums)
    return Factor(seen, kept, cells)


def places(lots, first, second, states):
    """For each row of states of the lots, ascending, how far it stands along the numbers of both factors."""
    return list(zip(distances(lots, first, states), distances(lots, second, states)))


def distances(lots, hidden, states):
    """For each row of states of the lots, ascending, how far it stands along the numbers of a factor."""
    found = [0]
    for at in lots:
        step = 0
        if at in hidden:
            step = multiplied([states[later] for later in hidden if later > at])
        found = [far + step * state for far in found for state in range(states[at])]
    return found


def part_of(setting, seen, few):
    """What a setting of the variables `seen` says of a few of them."""
    return tuple([worth for variable, worth in zip(seen, setting) if variable in few])


def whole_numbers(ratios):
    """A common divisor of RATIOs, and the whole numbers that they are by it."""
    divisor = 1
    for one in ratios:
        divisor = lcm(divisor, one[1])
    return (divisor, [one[0] * (divisor // one[1]) for one in ratios])


def lowest(divisor, numbers):
    """The same ratios by the least common divisor."""
    common = divisor
    for number in numbers:
        common = gcd(common, number)
        if common == 1:
            return (divisor, numbers)
    return (divisor // common, [number // common for number in numbers])
