"""What several test files need: graphs, models, wrong values, and sums written out."""

import random
from fractions import Fraction
from itertools import combinations, product

DOOR = (("x", "m", "y"), ((0, 1), (1, 2)), ((0, 2),))
BOW = (("x", "y"), ((0, 1),), ((0, 1),))
PLAIN = (("x", "y"), ((0, 1),), ())
LONE = (("x",), (), ())
EIGHT = tuple("abcdefgh")
PAIRS = tuple(combinations(range(8), 2))
FLIPS = (PLAIN, (2, 2), (), ((((1, 3), (2, 3)),), (((1, 2), (1, 2)), ((1, 4), (3, 4)))))
SEEN = ((0, 1, 2),)
# Tian's rounds from all of it to h leave out one variable at a time, from g down to a, by the two rules in turns.
LADDER = (EIGHT, ((0, 7), (1, 2), (2, 7), (3, 4), (4, 7), (5, 6), (6, 7)), ((0, 1), (1, 7), (2, 3), (3, 7), (4, 5), (5, 7)))


def nested(depth, kind=tuple):
    """A value nested so deep."""
    value = kind()
    for _ in range(depth - 1):
        value = kind([value])
    return value


class Odd:
    """A thing that is equal to everything, has every length, and is everything's."""

    def __eq__(self, other):
        return True

    def __hash__(self):
        return 1

    def __len__(self):
        return 3


class Loud:
    """A thing that can't be compared, counted or shown."""

    def __eq__(self, other):
        raise RuntimeError("compared")

    def __hash__(self):
        raise RuntimeError("hashed")

    def __len__(self):
        raise RuntimeError("counted")

    def __iter__(self):
        raise RuntimeError("gone through")

    def __repr__(self):
        return "Loud()"


# None of these stands anywhere in a GRAPH, a LOT, a MODEL, a TOLD or a FORMULA.
WRONG = (
    None, True, False, -1, 10 ** 30, "?", "", b"x", [], {}, {0}, frozenset((0,)), (None,), (True,), ("?",), object,
    len, range(2), Odd(), Loud(), (Odd(),), (Loud(),), ([],), nested(300), nested(300, list),
)


def bends(value):
    """All that comes of a value if some thing in it, or it itself, is made one of a wrong kind."""
    yield from WRONG
    if type(value) is int:
        yield str(value)
        yield (value,)
        yield [value]
        if value in (0, 1):
            yield bool(value)
    if type(value) is str:
        yield value.encode()
        yield (value,)
        yield list(value)
        yield value.upper()
        yield value + " "
        yield value + "\n"
    if type(value) is tuple:
        yield list(value)
        yield set(value)
        yield dict.fromkeys(value)
        yield value + (None,)
        yield (value, value, value, value, value)
        for at, one in enumerate(value):
            for bent in bends(one):
                yield value[:at] + (bent,) + value[at + 1:]


def chances(count, source, zeros=False):
    """A row of so many chances, drawn from a source."""
    while True:
        shares = [source.randint(0 if zeros else 1, 5) for _ in range(count)]
        if sum(shares):
            break
    return tuple((one.numerator, one.denominator) for one in (Fraction(share, sum(shares)) for share in shares))


def some_model(graph, sizes, states, seed, zeros=False):
    """A model of the graph with so many states of each hidden lot."""
    source = random.Random(seed)
    hidden = tuple(chances(count, source, zeros) for count in states)
    rows = []
    for variable, size in enumerate(sizes):
        count = 1
        for start, end in graph[1]:
            if end == variable:
                count *= sizes[start]
        for lot, many in zip(graph[2], states):
            if variable in lot:
                count *= many
        rows.append(tuple(chances(size, source, zeros) for _ in range(count)))
    return (graph, tuple(sizes), hidden, tuple(rows))


def some_models():
    """Small models of many shapes, some with chances 0."""
    source = random.Random(20)
    for seed in range(60):
        count = source.randint(1, 4)
        arrows = tuple(pair for pair in combinations(range(count), 2) if source.random() < 0.5)
        sets = [lot for size in range(2, count + 1) for lot in combinations(range(count), size)]
        lots = tuple(sorted(source.sample(sets, min(len(sets), source.randint(0, 3)))))
        sizes = [source.choice((2, 2, 3)) for _ in range(count)]
        states = [source.randint(1, 3) for _ in lots]
        yield some_model((EIGHT[:count], arrows, lots), sizes, states, seed, zeros=seed % 3 == 0)


def settings(sizes):
    """All settings of variables of these sizes."""
    return list(product(*(range(size) for size in sizes)))


def chance_of(model, variable, setting, states):
    """The chance of the variable's value in the setting, with one state for each hidden lot."""
    graph, sizes, hidden, rows = model
    row = 0
    for parent in range(variable):
        if (parent, variable) in graph[1]:
            row = row * sizes[parent] + setting[parent]
    for lot, state, row_of_states in zip(graph[2], states, hidden):
        if variable in lot:
            row = row * len(row_of_states) + state
    return Fraction(*rows[variable][row][setting[variable]])


def q_at(model, lot, setting):
    """Q[lot] at a setting: the sum over all rows of states of all hidden lots, as B1 tells it."""
    hidden = model[2]
    found = Fraction(0)
    for states in product(*(range(len(row)) for row in hidden)):
        part = Fraction(1)
        for row, state in zip(hidden, states):
            part *= Fraction(*row[state])
        for variable in lot:
            part *= chance_of(model, variable, setting, states)
        found += part
    return found


def pair(one):
    """A Fraction as a RATIO."""
    return (one.numerator, one.denominator)


def refusal(error, call, *given, **named):
    """The error of this class that a call raises."""
    try:
        call(*given, **named)
    except error as found:
        assert type(found) is error, found
        return found
    raise AssertionError(f"{call.__name__} raised no {error.__name__}")
