"""Modes of hedges, and the trees and children that join them ([D1], [D3])."""

from causaleffects.graphs import hidden_at, parents_at
from causaleffects.lots import union
from causaleffects.modelforms import MOST_STATES, multiplied


class Mode:
    """A mode: its LOT, its COUNT without sign, the LINKS of its tree, and the child within it of each variable.

    A link is a triple (AT, ONE, OTHER): a pair of variables of the hidden lot with this index. The variables
    of the small lot, of which the mode is made, have no child.
    """

    def __init__(self, lot, count, links, heirs):
        self.lot = lot
        self.count = count
        self.links = links
        self.heirs = heirs


def counted_modes(small, hedges):
    """The pairs (LOT, COUNT) of the modes of hedges of a small lot, ascending."""
    counts = {small: 1}
    for hedge in hedges:
        # Whatever makes a union so far makes another one with this hedge, by one more: it counts the other way.
        before = list(counts.items())
        for lot, count in before:
            joint = union(lot, hedge)
            counts[joint] = counts.get(joint, 0) - count
    return tuple([(lot, counts[lot]) for lot in sorted(counts) if counts[lot] != 0])


def joined_modes(graph, sizes, small, counted):
    """The Modes of one model, told pairs (LOT, COUNT) of them."""
    trees = []
    for lot, _ in counted:
        trees.append(tree_of(graph, sizes, lot, trees))
    return [Mode(lot, abs(count), links, heirs_in(graph, lot, small)) for (lot, count), links in zip(counted, trees)]


def heirs_in(graph, lot, ends):
    """A child within the lot for each of its variables, but for the ends."""
    found = {}
    for start, end in graph[1]:
        if start in lot and start not in ends and end in lot and start not in found:
            found[start] = end
    return found


def tree_of(graph, sizes, lot, trees):
    """Links that join the lot, each one in a hidden lot by which the model stays as small as can be there.

    The trees are those of the other modes of the model so far.
    """
    links = []
    reached = [lot[0]]
    while len(reached) < len(lot):
        best = None
        least = None
        for link in next_links(graph, lot, reached):
            work = greatness(graph, sizes, [*trees, [*links, link]])
            if best is None or work < least:
                best = link
                least = work
        links.append(best)
        reached.append(best[2])
    return links


def next_links(graph, lot, reached):
    """A link from what is reached to the rest of the lot for each hidden lot that has one."""
    found = []
    for at, both in enumerate(graph[2]):
        inner = [one for one in both if one in reached]
        outer = [one for one in both if one in lot and one not in reached]
        if inner and outer:
            found.append((at, inner[0], outer[0]))
    return found


def greatness(graph, sizes, trees):
    """How great a model with these trees is: by how many states a lot has too many, and how many chances there are."""
    counts = state_counts(graph, trees)
    return (sum([max(0, count - MOST_STATES) for count in counts]), chance_count(graph, sizes, counts))


def state_counts(graph, trees):
    """How many states each hidden lot has: all signs of a mode's links in it, for each mode that has some there."""
    found = []
    for at in range(len(graph[2])):
        many = [len([link for link in links if link[0] == at]) for links in trees]
        found.append(max(1, sum([1 << few for few in many if few > 0])))
    return found


def chance_count(graph, sizes, counts):
    """How many chances all rows have together, told how many states each hidden lot has."""
    found = 0
    for variable, size in enumerate(sizes):
        heads = multiplied([sizes[one] for one in parents_at(graph, variable)])
        found = found + size * heads * multiplied([counts[at] for at in hidden_at(graph, variable)])
    return found
