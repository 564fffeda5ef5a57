"""Places: the nodes of a tree and the points of its edges, and how far they are from each other."""

from math import gcd

from treeserved.trees import are_nodes, distance, distances_from, lengths_of, names_of, path


def number(top, bottom):
    """Return the fraction of two integers in lowest terms; bottom is at least 1."""
    part = gcd(top, bottom)
    return top // part, bottom // part


def place_on(some_tree, first, second, offset):
    """Return the place that is offset, an integer or a number, away from first on the path to second."""
    top, bottom = (offset, 1) if isinstance(offset, int) else offset
    gone = distances_from(some_tree, first)
    # Who goes farther than the second node, or less than not at all, stays at the end of the path.
    top = max(0, min(top, gone[second] * bottom))
    way = path(some_tree, first, second)
    before = [name for name in way if gone[name] * bottom <= top][-1]
    behind = [name for name in way if gone[name] * bottom >= top][0]
    if before == behind:
        return "node", before
    lesser, greater = min(before, behind), max(before, behind)
    return "edge", lesser, greater, number(abs(top - gone[lesser] * bottom), bottom)


def is_place(some_tree, place):
    """Tell whether a place, with any strings as its nodes and any number as its offset, is one of the tree."""
    if place[0] == "node":
        return are_nodes(some_tree, place[1:])
    _, first, second, (top, bottom) = place
    length = lengths_of(some_tree).get((first, second), 0)
    return 0 < top < length * bottom and number(top, bottom) == (top, bottom)


def between(some_tree, place, other):
    """Return the distance of two places, a number."""
    # Only the way between two points of one edge need not come to an end of the edge.
    if place[0] == "edge" and place[:3] == other[:3]:
        (top, bottom), (other_top, other_bottom) = place[3], other[3]
        return number(abs(top * other_bottom - other_top * bottom), bottom * other_bottom)
    tops, bottom = _tops_from(some_tree, place)
    ends, other_bottom = _ends(some_tree, other)
    ways = [tops[name] * other_bottom + top * bottom for name, top in ends]
    return number(min(ways), bottom * other_bottom)


def reach(some_tree, place):
    """Return the greatest distance of a place to a node, a number."""
    tops, bottom = _tops_from(some_tree, place)
    return number(max(tops.values()), bottom)


def load(some_tree, place):
    """Return the sum of the weight of each node times its distance from a place, a number."""
    tops, bottom = _tops_from(some_tree, place)
    return number(sum([weight * tops[name] for name, weight in some_tree[0]]), bottom)


def _ends(some_tree, place):
    """Return the nodes by which one leaves a place, with the tops of their distances, and the bottom of these."""
    if place[0] == "node":
        return [(place[1], 0)], 1
    _, first, second, (top, bottom) = place
    return [(first, top), (second, distance(some_tree, first, second) * bottom - top)], bottom


def _tops_from(some_tree, place):
    """Return a dict with the tops of the distances of a place to all nodes, and the one bottom of them all."""
    ends, bottom = _ends(some_tree, place)
    ways = [(top, distances_from(some_tree, end)) for end, top in ends]
    return {name: min([top + far[name] * bottom for top, far in ways]) for name in names_of(some_tree)}, bottom
