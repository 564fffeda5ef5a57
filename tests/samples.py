"""Trees for the tests, and slow answers to compare with, found by trying out everything."""

from treeserved.trees import tree

NAMES = ["a", "b", "b2", "c10", "d", "e", "fghijklm", "g", "h1", "m", "x9", "z"]


def made(parents):
    """The tree in which node k + 1 hangs on the node with the index parents[k]."""
    count = len(parents) + 1
    nodes = [(NAMES[k], (7 * k) % 5) for k in range(count)]
    edges = [(NAMES[k + 1], NAMES[up], 1 + (k * k + 3 * up) % 9) for k, up in enumerate(parents)]
    return tree(nodes, edges)


def scattered(parents):
    """The same shape with the names dealt out in another order, so that names and places do not agree."""
    count = len(parents) + 1
    names = [NAMES[(5 * k + 3) % 12] for k in range(count)]
    nodes = [(names[k], k) for k in range(count)]
    edges = [(names[up], names[k + 1], 999 - 80 * k) for k, up in enumerate(parents)]
    return tree(nodes, edges)


def shapes():
    """Lists of parents: long, starlike, bushy and hairy trees of one to twelve nodes."""
    found = [[]]
    for count in (1, 2, 3, 4, 6, 8, 11):
        found.append([k for k in range(count)])
        found.append([0 for _ in range(count)])
        found.append([k // 2 for k in range(count)])
        found.append([k // 3 for k in range(count)])
        found.append([k - k % 2 for k in range(count)])
        found.append([max(0, k - 3) for k in range(count)])
    return found


def trees():
    """Trees of every shape, with both dealings of the names."""
    return [make(parents) for parents in shapes() for make in (made, scattered)]


def links(some_tree):
    """A dict from each node to the dict of its neighbors and the lengths, read off the edges."""
    found = {name: {} for name, _ in some_tree[0]}
    for first, second, length in some_tree[1]:
        found[first][second] = length
        found[second][first] = length
    return found


def slow_path(some_tree, first, second):
    """The only way without a node twice, found by going every such way."""
    table = links(some_tree)
    ways = [[first]]
    found = []
    while ways:
        way = ways.pop()
        if way[-1] == second:
            found.append(way)
        ways.extend(way + [other] for other in table[way[-1]] if other not in way)
    assert len(found) == 1, found
    return found[0]


def slow_distance(some_tree, first, second):
    table = links(some_tree)
    way = slow_path(some_tree, first, second)
    return sum(table[one][two] for one, two in zip(way, way[1:]))
