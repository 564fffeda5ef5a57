"""Cutting a tree into parts that are not too heavy, and the ledger that shows that fewer cuts do not do."""

from treeserved.trees import away_from, forest, names_of, weight_of


def cuts(some_tree, bound):
    """Return the list of the fewest edges whose cutting leaves parts of at most the bound, or None if none do."""
    settled = _settled(some_tree, bound)
    if settled is None:
        return None
    pairs = [(name, other) for name in settled for other in settled[name][0]]
    return sorted([(min(name, other), max(name, other)) for name, other in pairs])


def _settled(some_tree, bound):
    """Return a dict with the neighbors that are cut off from each node, how many cuts are beyond it, and what it holds.

    Where a node is heavier than the bound, it is None.
    """
    settled = {}
    ways = away_from(some_tree, names_of(some_tree)[0])
    for name in reversed(list(ways)):
        rows = sorted([(-settled[end][2], end) for end, _ in ways[name]])
        held = weight_of(some_tree, name) - sum([less for less, _ in rows])
        gone = []
        for less, end in rows:
            if held > bound:
                gone.append(end)
                held += less
        if held > bound:
            return None
        settled[name] = (gone, len(gone) + sum([settled[end][1] for _, end in rows]), held)
    return settled


def parts_of(some_tree, edges):
    """Return the list of the trees that are left when edges are cut, ascending by their first nodes."""
    gone = [(min(first, second), max(first, second)) for first, second in edges]
    return forest(some_tree[0], [edge for edge in some_tree[1] if edge[:2] not in gone])


def ledger(some_tree, bound):
    """Return the list of the triples (node, cuts beyond it, what it holds), or None if a node is too heavy."""
    settled = _settled(some_tree, bound)
    if settled is None:
        return None
    return [(name, settled[name][1], settled[name][2]) for name in names_of(some_tree)]


def is_right(some_tree, bound, rows):
    """Tell whether a list of triples is the right ledger."""
    # From the leaves on, each triple is given by those beyond it, so that there is just one right ledger.
    return rows == ledger(some_tree, bound)
