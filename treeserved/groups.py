"""Families of groups of nodes: nodes that hit them, groups that are apart, nodes that all have."""

from itertools import combinations

from treeserved.trees import away_from, names_of


def hit(some_tree, groups):
    """Return the pair of the nodes that are taken and the indices of the groups that are kept, both ascending."""
    depths = _depths(some_tree)
    tops = [_top(depths, group) for group in groups]
    taken = []
    kept = []
    for _, top, index in sorted([(-depths[top], top, index) for index, top in enumerate(tops)]):
        if not _meet(groups[index], taken):
            taken.append(top)
            kept.append(index)
    return sorted(taken), sorted(kept)


def top_of(some_tree, group):
    """Return the node of a group with the fewest edges on the path to the first node of the tree."""
    return _top(_depths(some_tree), group)


def _depths(some_tree):
    root = names_of(some_tree)[0]
    depths = {root: 0}
    for name, ways in away_from(some_tree, root).items():
        for other, _ in ways:
            depths[other] = depths[name] + 1
    return depths


def _top(depths, group):
    return min([(depths[name], name) for name in group])[1]


def _meet(first, second):
    return any([name in second for name in first])


def are_hit(groups, names):
    """Tell whether each group of a family has one of the names."""
    return all([_meet(group, names) for group in groups])


def are_apart(groups, indices):
    """Tell whether indices are different ones of groups of which no two have a node in common."""
    if len(set(indices)) < len(indices) or not all([0 <= index < len(groups) for index in indices]):
        return False
    return not any([_meet(groups[i], groups[j]) for i, j in combinations(indices, 2)])


def common(some_tree, groups):
    """Return the first node that all groups have, or else the first two indices of groups that are apart."""
    shared = [name for name in names_of(some_tree) if all([name in group for group in groups])]
    if shared:
        return "node", shared[0]
    # Groups of a tree that meet pairwise have a common node, so here some two of them are apart.
    return [("apart", i, j) for i, j in combinations(range(len(groups)), 2) if not _meet(groups[i], groups[j])][0]
