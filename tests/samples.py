"""Trees for the tests, and slow answers to compare with, found by trying out everything."""

from fractions import Fraction

from treeserved.trees import tree

NAMES = ["a", "b", "b2", "c10", "d", "e", "fghijklm", "g", "h1", "m", "x9", "z"]
T = tree([("a", 1), ("b", 0), ("c", 2), ("d", 1)], [("b", "a", 3), ("b", "c", 4), ("d", "b", 2)])
ONE = tree([("only", 9)], [])
TWO = tree([("y", 1), ("x", 2)], [("y", "x", 999)])
LONG = tree([(name, k) for k, name in enumerate("abcde")], [("c", "a", 1), ("a", "e", 2), ("e", "b", 4), ("b", "d", 8)])


def made(parents):
    """The tree in which node k + 1 hangs on the node with the index parents[k]."""
    count = len(parents) + 1
    nodes = [(NAMES[k], (7 * k) % 5) for k in range(count)]
    edges = [(NAMES[k + 1], NAMES[up], 1 + (k * k + 3 * up) % 9) for k, up in enumerate(parents)]
    return tree(nodes, edges)


def scattered(parents):
    """The same shape with the names dealt out in another order, so that names and places do not agree."""
    count = len(parents) + 1
    names = [NAMES[(5 * k + 3) % 12] for k in range(count)]
    nodes = [(names[k], k) for k in range(count)]
    edges = [(names[up], names[k + 1], 999 - 80 * k) for k, up in enumerate(parents)]
    return tree(nodes, edges)


def shapes():
    """Lists of parents: long, starlike, bushy and hairy trees of one to twelve nodes."""
    found = [[]]
    for count in (1, 2, 3, 4, 6, 8, 11):
        found.append([k for k in range(count)])
        found.append([0 for _ in range(count)])
        found.append([k // 2 for k in range(count)])
        found.append([k // 3 for k in range(count)])
        found.append([k - k % 2 for k in range(count)])
        found.append([max(0, k - 3) for k in range(count)])
    return found


def trees():
    """Trees of every shape, with both dealings of the names."""
    return [make(parents) for parents in shapes() for make in (made, scattered)]


def links(some_tree):
    """A dict from each node to the dict of its neighbors and the lengths, read off the edges."""
    found = {name: {} for name, _ in some_tree[0]}
    for first, second, length in some_tree[1]:
        found[first][second] = length
        found[second][first] = length
    return found


def slow_path(some_tree, first, second):
    """The only way without a node twice, found by going every such way."""
    table = links(some_tree)
    ways = [[first]]
    found = []
    while ways:
        way = ways.pop()
        if way[-1] == second:
            found.append(way)
        ways.extend(way + [other] for other in table[way[-1]] if other not in way)
    assert len(found) == 1, found
    return found[0]


def slow_distance(some_tree, first, second):
    table = links(some_tree)
    way = slow_path(some_tree, first, second)
    return sum(table[one][two] for one, two in zip(way, way[1:]))


def spots(some_tree, parts):
    """Places: all nodes, and on each edge the points that cut it into so many equal parts."""
    found = [("node", name) for name, _ in some_tree[0]]
    for first, second, length in some_tree[1]:
        for k in range(1, parts):
            found.append(("edge", first, second, told(Fraction(length * k, parts))))
    return found


def told(fraction):
    """A fraction as the number that the program tells."""
    return fraction.numerator, fraction.denominator


def slow_far(some_tree, places):
    """A dict from each of the places to the dict of its distances to all of them and to all nodes, by walking."""
    table = {("node", name): {} for name, _ in some_tree[0]}
    for first, second, length in some_tree[1]:
        points = {place for place in places if place[:3] == ("edge", first, second)}
        row = sorted((Fraction(*place[3]), place) for place in points)
        row = [(Fraction(0), ("node", first))] + row + [(Fraction(length), ("node", second))]
        for (here, one), (there, two) in zip(row, row[1:]):
            table.setdefault(one, {})[two] = there - here
            table.setdefault(two, {})[one] = there - here
    return {place: walked(table, place) for place in places}


def walked(table, start):
    far = {start: Fraction(0)}
    fresh = [start]
    for place in fresh:
        for other in table[place]:
            if other not in far:
                far[other] = far[place] + table[place][other]
                fresh.append(other)
    return far


def groups_of(some_tree):
    """All groups of a tree: the sets of nodes that hang together, grown neighbor by neighbor."""
    table = links(some_tree)
    found = {(name,) for name in table}
    fresh = sorted(found)
    while fresh:
        group = fresh.pop()
        for name in group:
            for other in table[name]:
                grown = tuple(sorted(set(group) | {other}))
                if grown not in found:
                    found.add(grown)
                    fresh.append(grown)
    return sorted(found, key=lambda group: (len(group), group))


def families_of(some_tree, most):
    """Families of 0 to most groups, dealt out of all groups of a tree in several steps; some have equal groups."""
    groups = groups_of(some_tree)
    found = [[]]
    for count in range(1, most + 1):
        for start, step in ((0, 1), (1, 3), (5, 7), (2, 11), (len(groups) // 3, 0), (len(groups) // 2, 5)):
            found.append([groups[(start + step * k) % len(groups)] for k in range(count)])
    return found


def slow_all(some_tree):
    """A dict from each node to the dict of its distances to all nodes, by walking."""
    table = links(some_tree)
    return {name: {other: int(far) for other, far in walked(table, name).items()} for name in table}
