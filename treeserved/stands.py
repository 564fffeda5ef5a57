"""Stands: as few nodes as serve a tree within a distance, and the witnesses that fewer do not."""

from treeserved.groups import are_apart, are_hit, hit
from treeserved.trees import are_nodes, distances_from, names_of


def stands(some_tree, far):
    """Return the pair of the stands for a distance and of the witnesses, two lists of names, ascending."""
    # Below 0 there are no stands; taken as 0 it does no harm, since each node is near itself.
    nodes, indices = hit(some_tree, _near_groups(some_tree, max(far, 0)))
    return nodes, [names_of(some_tree)[index] for index in indices]


def _near_groups(some_tree, far):
    """Return for each node, in order, the group of all nodes that are at most so far away."""
    groups = []
    for name in names_of(some_tree):
        gone = distances_from(some_tree, name)
        groups.append(tuple([other for other in names_of(some_tree) if gone[other] <= far]))
    return groups


def least_distance(some_tree, many):
    """Return the least distance for a number of stands, the stands for it, and the witnesses against a lesser one."""
    far = _least(some_tree, many)
    nodes, _ = stands(some_tree, far)
    if far == 0:
        return far, nodes, None
    _, witnesses = stands(some_tree, far - 1)
    return far, nodes, witnesses[:many + 1]


def _least(some_tree, many):
    # The stands become fewer only where one more node comes near: at the distances of nodes, of which 0 is one.
    steps = sorted({far for name in names_of(some_tree) for far in distances_from(some_tree, name).values()})
    low, high = 0, len(steps) - 1
    # For the greatest distance one stand is enough, and a greater distance never needs more stands.
    while low < high:
        middle = (low + high) // 2
        if len(stands(some_tree, steps[middle])[0]) <= many:
            high = middle
        else:
            low = middle + 1
    return steps[low]


def do_serve(some_tree, names, far):
    """Tell whether strings are nodes such that each node of the tree has one of them at most so far away."""
    return are_nodes(some_tree, names) and are_hit(_near_groups(some_tree, far), names)


def are_too_far(some_tree, names, far):
    """Tell whether strings are different nodes of which no two have a node at most so far away from both."""
    if not are_nodes(some_tree, names):
        return False
    return are_apart(_near_groups(some_tree, far), [names_of(some_tree).index(name) for name in names])


def served(some_tree, names):
    """Return the list of the triples (node, the nearest one of some nodes, its distance)."""
    found = []
    for node in names_of(some_tree):
        gone = distances_from(some_tree, node)
        far, name = min([(gone[name], name) for name in names])
        found.append((node, name, far))
    return found
