"""Loads on the nodes of a tree: how to move one into another one, and the prices that show that none costs less."""

from treeserved.errors import RouteError
from treeserved.trees import away_from, lengths_of, names_of, sides


def flow(some_tree, first, second):
    """Return the list of the triples (node, neighbor, number) of what has to go over edges, ascending."""
    more = surplus(some_tree, first, second)
    if sum(more.values()) != 0:
        raise RouteError("other sum")
    found = []
    for one, other in lengths_of(some_tree):
        near, _ = sides(some_tree, one, other)
        number = sum([more[name] for name in near])
        if number > 0:
            found.append((one, other, number))
        if number < 0:
            found.append((other, one, -number))
    return sorted(found)


def surplus(some_tree, first, second):
    """Return a dict with how much more the first load has at each node than the second one."""
    more = {name: 0 for name in names_of(some_tree)}
    for name, number in first:
        more[name] += number
    for name, number in second:
        more[name] -= number
    return more


def cost(some_tree, first, second):
    """Return the sum of each number of the flow times the length of its edge."""
    lengths = lengths_of(some_tree)
    rows = flow(some_tree, first, second)
    return sum([number * lengths[min(one, other), max(one, other)] for one, other, number in rows])


def plan(some_tree, first, second):
    """Return the list of the triples (from, to, number) that move the first load into the second one."""
    more = surplus(some_tree, first, second)
    left = {(one, other): number for one, other, number in flow(some_tree, first, second)}
    moves = []
    while left:
        start = min([name for name in more if more[name] > 0])
        steps = _steps(more, left, start)
        end = steps[-1][1]
        number = min([more[start], -more[end]] + [left[step] for step in steps])
        moves.append((start, end, number))
        more[start] -= number
        more[end] += number
        for step in steps:
            left[step] -= number
        left = {step: left[step] for step in left if left[step] > 0}
    return moves


def _steps(more, left, start):
    """Return the pairs (node, neighbor) along flow that is left, up to the first node at which something lacks."""
    steps = []
    name = start
    while more[name] >= 0:
        other = min([there for here, there in left if here == name])
        steps.append((name, other))
        name = other
    return steps


def prices(some_tree, first, second):
    """Return the list of the pairs (node, price), ascending, that fall along the flow."""
    flowing = [(one, other) for one, other, _ in flow(some_tree, first, second)]
    root = names_of(some_tree)[0]
    price = {root: 0}
    for name, ways in away_from(some_tree, root).items():
        for other, length in ways:
            price[other] = price[name]
            if (name, other) in flowing:
                price[other] -= length
            if (other, name) in flowing:
                price[other] += length
    return [(name, price[name]) for name in names_of(some_tree)]
