"""Centers and medians of a tree, and the papers for them."""

from treeserved.places import load, number, place_on
from treeserved.trees import are_nodes, distance, distances_from, names_of, neighbors, sides, weight_of, whole_weight


def farthest_pair(some_tree):
    """Return the first pair (a, b) of nodes, a <= b, with the greatest distance."""
    names = names_of(some_tree)
    best = (names[0], names[0])
    most = 0
    for first in names:
        far = distances_from(some_tree, first)
        # Pairs with the lesser name behind have had their turn, with the same distance.
        for second in names:
            if far[second] > most:
                best = (first, second)
                most = far[second]
    return best


def center(some_tree):
    """Return the place in the middle of the path between the farthest pair."""
    first, second = farthest_pair(some_tree)
    return place_on(some_tree, first, second, radius(some_tree))


def radius(some_tree):
    """Return half of the distance of the farthest pair, a number."""
    first, second = farthest_pair(some_tree)
    return number(distance(some_tree, first, second), 2)


def shows_radius(some_tree, pair, least):
    """Tell whether a pair of strings is one of nodes that shows that no reach is less than a number."""
    if not are_nodes(some_tree, pair):
        return False
    first, second = pair
    top, bottom = least
    return distance(some_tree, first, second) * bottom >= 2 * top


def medians(some_tree):
    """Return the list of the nodes with the least load, ascending."""
    # The load of a node is an integer: the bottoms are all 1.
    loads = {name: load(some_tree, ("node", name))[0] for name in names_of(some_tree)}
    least = min(loads.values())
    return [name for name in names_of(some_tree) if loads[name] == least]


def branches(some_tree, name):
    """Return the list of the pairs (neighbor, weight of the branch) of a node, ascending."""
    return [(other, _weight_beyond(some_tree, name, other)) for other, _ in neighbors(some_tree, name)]


def _weight_beyond(some_tree, name, other):
    beyond, _ = sides(some_tree, other, name)
    return sum([weight_of(some_tree, one) for one in beyond])


def is_median(some_tree, name):
    """Tell whether no branch of a node has more than half of the weight of the tree."""
    whole = whole_weight(some_tree)
    return all([2 * weight <= whole for _, weight in branches(some_tree, name)])
