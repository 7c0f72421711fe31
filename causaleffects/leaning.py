"""The two models of [D3]: bits that lean by signs, which hidden causes share.

A variable of a mode has a bit h, which leans; one that the effect needs has a bit k, which is sent on.
"""

from causaleffects.errors import TooMany
from causaleffects.graphs import hidden_at, parents_at
from causaleffects.lots import needed_lot, union
from causaleffects.modelforms import MOST_CHANCES, MOST_SETTINGS, MOST_STATES, multiplied, settings
from causaleffects.modes import chance_count, counted_modes, heirs_in, joined_modes, state_counts
from causaleffects.ratios import ratio, times


class Frame:
    """What both models have in common.

    `small` is the lot of which the modes are made, `leaning` the lot of the variables with a bit h, `sending`
    that of those with a bit k; `sends` tells to which child each of these sends, those of what is asked to none.
    """

    def __init__(self, graph, small, leaning, sending, sends):
        self.graph = graph
        self.small = small
        self.leaning = leaning
        self.sending = sending
        self.sends = sends
        self.sizes = tuple([4 if one in leaning and one in sending else 2 for one in range(len(graph[0]))])

    def leaning_bit(self, variable, worth):
        """The bit h in a value of the variable, which has one."""
        if variable in self.sending:
            return worth // 2
        return worth

    def sent_bit(self, variable, worth):
        """What the variable, which has a bit k, sends, told its value."""
        sent = worth & 1
        if variable in self.small:
            sent = sent ^ self.leaning_bit(variable, worth)
        return sent


class Plan:
    """One model's Modes, the States of each hidden lot, and the strengths, all by one divisor.

    `strength` is what a mode hands in at all variables but the small lot's first one, `starts` what the modes do there.
    """

    def __init__(self, modes, states, divisor, strength, starts):
        self.modes = modes
        self.states = states
        self.divisor = divisor
        self.strength = strength
        self.starts = starts


class State:
    """A state of a hidden lot: its chance, the number of the mode that it tells, a sign for each link there."""

    def __init__(self, chance, number, signs):
        self.chance = chance
        self.number = number
        self.signs = signs


def leaning_models(graph, deeds, asked, small, hedges):
    """The two models for a district that no told lot tells, and its greatest hedges within those that have it."""
    counted = counted_modes(small, hedges)
    frame = framed(graph, small, [lot for lot, _ in counted], needed_lot(graph, deeds, asked), asked)
    need_at_most(multiplied(frame.sizes), MOST_SETTINGS)
    one = joined_modes(graph, frame.sizes, small, [pair for pair in counted if pair[1] > 0])
    two = joined_modes(graph, frame.sizes, small, [pair for pair in counted if pair[1] < 0])
    share = 2 * max(len(one), len(two))
    greatest = max([burden(mode, modes, share) for modes in (one, two) for mode in modes])
    plans = [planned(frame, modes, share, greatest) for modes in (one, two)]
    return (model_of(frame, plans[0]), model_of(frame, plans[1]))


def framed(graph, small, lots, sending, asked):
    """The Frame of two models, told the lots of their modes."""
    leaning = ()
    for lot in lots:
        leaning = union(leaning, lot)
    return Frame(graph, small, leaning, sending, heirs_in(graph, sending, asked))


def need_at_most(count, most):
    """Refuse too great a number."""
    if count > most:
        raise TooMany(count)


def burden(mode, modes, share):
    """A mode's count by its weight, were it as strong at the small lot's first variable as elsewhere.

    The weight is the product of its strengths, each 1 by the share, and of the chances that its hidden lots tell it.
    """
    found = mode.count * multiplied([share for _ in mode.lot])
    for at in sorted({link[0] for link in mode.links}):
        found = found * len([one for one in modes if links_at(one, at)])
    return found


def planned(frame, modes, share, greatest):
    """The Plan of one model; the greatest burden of both models' modes makes the weight of each its count by that."""
    counts = state_counts(frame.graph, [mode.links for mode in modes])
    for count in counts:
        need_at_most(count, MOST_STATES)
    need_at_most(chance_count(frame.graph, frame.sizes, counts), MOST_CHANCES)
    states = [states_at(modes, at) for at in range(len(counts))]
    return Plan(modes, states, share * greatest, greatest, [burden(mode, modes, share) for mode in modes])


def states_at(modes, at):
    """The States of the hidden lot with this index: each mode that is there with each row of signs."""
    there = [number for number, mode in enumerate(modes) if links_at(mode, at)]
    found = []
    for number in there:
        links = links_at(modes[number], at)
        for signs in sign_rows(len(links)):
            found.append(State((1, len(there) << len(links)), number, dict(zip(links, signs))))
    return found or [State((1, 1), None, {})]


def links_at(mode, at):
    """The links of a mode that are of the hidden lot with this index."""
    return [link for link in mode.links if link[0] == at]


def sign_rows(count):
    """All rows of so many signs."""
    rows = [()]
    for _ in range(count):
        rows = [(*row, sign) for row in rows for sign in (1, -1)]
    return rows


def model_of(frame, plan):
    """The MODEL of a Plan."""
    hidden = tuple([tuple([state.chance for state in row]) for row in plan.states])
    rows = tuple([rows_of(frame, plan, variable) for variable in range(len(frame.sizes))])
    return (frame.graph, frame.sizes, hidden, rows)


def rows_of(frame, plan, variable):
    """The rows of a variable."""
    heads = parents_at(frame.graph, variable)
    pushes = [pushes_of(frame, plan, variable, told) for told in state_rows(plan, hidden_at(frame.graph, variable))]
    found = []
    for setting in settings([frame.sizes[one] for one in heads]):
        ahead = dict(zip(heads, setting))
        turns = [turn_of(frame, mode, variable, ahead) for mode in plan.modes]
        sent = sending_chances(frame, variable, ahead)
        for push in pushes:
            lean = sum([one * turn for one, turn in zip(push, turns)])
            found.append(both_chances(leaning_chances(frame, plan, variable, lean), sent))
    return tuple(found)


def state_rows(plan, lots):
    """Each row of states of hidden lots, ascending: which State each lot has."""
    rows = [{}]
    for at in lots:
        rows = [{**row, at: state} for row in rows for state in plan.states[at]]
    return rows


def pushes_of(frame, plan, variable, told):
    """What each mode hands in at a variable, told the State of each of its hidden lots."""
    return [push_of(frame, plan, variable, number, told) for number in range(len(plan.modes))]


def push_of(frame, plan, variable, number, told):
    """What the mode with this number hands in at a variable; 0 where it is not on."""
    mode = plan.modes[number]
    if variable not in mode.lot:
        return 0
    push = plan.strength
    if variable == frame.small[0]:
        push = plan.starts[number]
    for link in mode.links:
        if variable in link[1:]:
            state = told[link[0]]
            if state.number != number:
                return 0
            push = push * state.signs[link]
    return push


def turn_of(frame, mode, variable, ahead):
    """-1 to the number of the parents whose child in the mode is the variable and whose bit h is 1."""
    turn = 1
    for one, child in mode.heirs.items():
        if child == variable and frame.leaning_bit(one, ahead[one]) == 1:
            turn = -turn
    return turn


def leaning_chances(frame, plan, variable, lean):
    """The chances of the bit h; one chance of 1 for none."""
    if variable not in frame.leaning:
        return ((1, 1),)
    whole = 2 * plan.divisor
    return (ratio(plan.divisor + lean, whole), ratio(plan.divisor - lean, whole))


def sending_chances(frame, variable, ahead):
    """The chances of the bit k, told the values of the parents; one chance of 1 for none."""
    if variable not in frame.sending:
        return ((1, 1),)
    sent = 0
    for one, child in frame.sends.items():
        if child == variable:
            sent = sent ^ frame.sent_bit(one, ahead[one])
    if sent == 0:
        return ((3, 4), (1, 4))
    return ((1, 4), (3, 4))


def both_chances(leaning, sending):
    """The chances of a variable's values, told those of its bits."""
    found = tuple([times(one, other) for one in leaning for other in sending])
    if len(found) == 1:
        return ((1, 2), (1, 2))
    return found
