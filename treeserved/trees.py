"""Trees, as pairs of nodes and edges, and what lies between their nodes."""

from treeserved.errors import ShapeError
from treeserved.limits import GREAT, LETTERS, NODES

LOWER = "abcdefghijklmnopqrstuvwxyz"
DIGITS = "0123456789"


def is_name(word):
    """Tell whether a string is a name that a node may have."""
    if not 1 <= len(word) <= LETTERS:
        return False
    return word[0] in LOWER and all([sign in LOWER or sign in DIGITS for sign in word])


def tree(nodes, edges):
    """Make a tree of a list of pairs (name, weight) and a list of triples (name, name, length)."""
    check_nodes(nodes)
    _check_edges([name for name, _ in nodes], edges)
    return ordered(nodes, edges)


def ordered(nodes, edges):
    """Return the pair of nodes and edges as a tree has them, all ascending, whether they make a tree or not."""
    turned = [(min(first, second), max(first, second), length) for first, second, length in edges]
    return tuple(sorted([(name, weight) for name, weight in nodes])), tuple(sorted(turned))


def check_nodes(nodes):
    """Raise ShapeError with the first fault of the nodes of a tree, if there is one."""
    seen = {}
    for place, (name, weight) in enumerate(nodes):
        if not is_name(name):
            raise ShapeError("wrong name", place)
        if name in seen:
            raise ShapeError("named twice", place)
        if not 0 <= weight <= GREAT:
            raise ShapeError("wrong weight", place)
        seen[name] = True
    if not 1 <= len(nodes) <= NODES:
        raise ShapeError("wrong number of nodes", len(nodes))


def _check_edges(names, edges):
    # Two nodes have the same label just when the edges so far give a path between them.
    label = {name: name for name in names}
    for place, (first, second, length) in enumerate(edges):
        if first not in label or second not in label:
            raise ShapeError("unknown node", place)
        if not 1 <= length <= GREAT:
            raise ShapeError("wrong length", place)
        kept, gone = label[first], label[second]
        if kept == gone:
            raise ShapeError("joined already", place)
        label = {name: kept if label[name] == gone else label[name] for name in names}
    if len(set(list(label.values()))) > 1:
        raise ShapeError("not joined", len(edges))


def names_of(some_tree):
    """Return the list of the names of the nodes, ascending."""
    return [name for name, _ in some_tree[0]]


def weight_of(some_tree, name):
    """Return the weight of a node."""
    return dict(some_tree[0])[name]


def are_nodes(some_tree, names):
    """Tell whether all of some strings are names of nodes of a tree."""
    known = names_of(some_tree)
    return all([name in known for name in names])


def whole_weight(some_tree):
    """Return the sum of the weights of all nodes."""
    return sum([weight for _, weight in some_tree[0]])


def lengths_of(some_tree):
    """Return a dict from each edge, as a pair of its names, the lesser one first, to its length; ascending."""
    return {(first, second): length for first, second, length in some_tree[1]}


def neighbors(some_tree, name):
    """Return the list of the pairs (neighbor, length of the edge to it) of a node, ascending."""
    found = []
    for first, second, length in some_tree[1]:
        if first == name:
            found.append((second, length))
        elif second == name:
            found.append((first, length))
    return sorted(found)


def away_from(some_tree, start):
    """Return a dict with the pairs (neighbor, length) of each node away from the start; all nodes follow their way."""
    ways = {}
    fresh = [(start, None)]
    while fresh:
        name, before = fresh.pop()
        ways[name] = [(other, length) for other, length in neighbors(some_tree, name) if other != before]
        fresh.extend([(other, name) for other, _ in ways[name]])
    return ways


def distances_from(some_tree, start):
    """Return a dict with the distance of each node from the start."""
    far = {start: 0}
    for name, ways in away_from(some_tree, start).items():
        for other, length in ways:
            far[other] = far[name] + length
    return far


def path(some_tree, first, second):
    """Return the list of the nodes on the way from the first node to the second one."""
    gone = distances_from(some_tree, first)
    left = distances_from(some_tree, second)
    # Lengths are greater than 0: just the nodes on the path are no detour, and each is farther than those before.
    found = [(gone[name], name) for name in gone if gone[name] + left[name] == gone[second]]
    return [name for _, name in sorted(found)]


def distance(some_tree, first, second):
    """Return the sum of the lengths of the edges between two nodes."""
    return distances_from(some_tree, first)[second]


def meeting(some_tree, first, second, third):
    """Return the only node that is on all three paths between two of the three nodes."""
    to_third = path(some_tree, first, third)
    past_first = path(some_tree, second, third)
    return [name for name in path(some_tree, first, second) if name in to_third and name in past_first][0]


def sides(some_tree, first, second):
    """Return the lists of the nodes on the first side and on the second side of an edge."""
    # Whoever is on the first side comes to the second name by way of the first one, which is farther.
    near = distances_from(some_tree, first)
    other = distances_from(some_tree, second)
    names = names_of(some_tree)
    return [name for name in names if near[name] < other[name]], [name for name in names if other[name] < near[name]]


def is_group(some_tree, names):
    """Tell whether a tuple of strings is a group: ascending different nodes with all that is between them."""
    if not names or list(names) != sorted(set(names)) or not are_nodes(some_tree, names):
        return False
    # Without a ring, nodes hang together just when the edges among them are one fewer than they are.
    inside = [first for first, second in lengths_of(some_tree) if first in names and second in names]
    return len(inside) == len(names) - 1


def forest(nodes, edges):
    """Return the list of the trees that nodes and edges without rings make, ascending by their first nodes."""
    whole = ordered(nodes, edges)
    # Nodes are in one tree just when the least node that each of them has a path to is the same.
    least = {name: min(distances_from(whole, name)) for name in names_of(whole)}
    found = []
    for head in sorted(set(list(least.values()))):
        inside = [(name, weight) for name, weight in nodes if least[name] == head]
        found.append(ordered(inside, [edge for edge in edges if least[edge[0]] == head]))
    return found
