"""Trees that are alike: the renamings that show it, and the normal forms that tell trees apart."""

from treeserved.trees import check_nodes, names_of, neighbors, ordered, weight_of


def renamed(some_tree, names):
    """Return the tree with the new names that a dict has for its nodes."""
    check_nodes([(names[name], weight) for name, weight in some_tree[0]])
    return _with_names(some_tree, names)


def _with_names(some_tree, names):
    nodes, edges = some_tree
    return ordered([(names[name], weight) for name, weight in nodes],
                   [(names[first], names[second], length) for first, second, length in edges])


def normal_form(some_tree):
    """Return the normal form of a tree: trees have the same one just when they are alike."""
    middle = _middle(some_tree)
    if len(middle) == 1:
        return "node", _form(some_tree, middle[0], None)
    first, second = middle
    forms = sorted([_form(some_tree, first, second), _form(some_tree, second, first)])
    return "edge", dict(neighbors(some_tree, first))[second], tuple(forms)


def _middle(some_tree):
    """Return the list of the node in the middle of the tree, or of the two nodes of the edge there."""
    left = names_of(some_tree)
    # Without its leaves each path with the most edges loses both of its ends, and keeps its middle.
    while len(left) > 2:
        left = [name for name in left if len([other for other, _ in neighbors(some_tree, name) if other in left]) > 1]
    return left


def _form(some_tree, name, viewer):
    """Return the form of a node, seen from a neighbor of it, or from nobody (None)."""
    forms = [(length, _form(some_tree, other, name)) for other, length in neighbors(some_tree, name) if other != viewer]
    return weight_of(some_tree, name), tuple(sorted(forms))


def renaming(some_tree, other):
    """Return the first dict of new names that makes the other tree of a tree, or None if they are not alike."""
    if normal_form(some_tree) != normal_form(other):
        return None
    names = {}
    # Nodes that are settled have marks instead of weights; the rest can follow as long as the trees are alike.
    left, right = some_tree, other
    for at, name in enumerate(names_of(some_tree)):
        left = _marked(left, name, at)
        wanted = normal_form(left)
        # A name that is taken does not fit: it would lose its mark.
        fits = [new for new in names_of(other) if normal_form(_marked(right, new, at)) == wanted]
        names[name] = fits[0]
        right = _marked(right, fits[0], at)
    return names


def _marked(some_tree, name, at):
    """Return the tree with a mark, a number below 0 that no other index gives, as the weight of a node."""
    nodes, edges = some_tree
    return tuple([(other, -1 - at if other == name else weight) for other, weight in nodes]), edges


def shows_alike(some_tree, other, names):
    """Tell whether a dict has just the nodes of a tree as keys and makes the other tree of it."""
    return sorted(names) == names_of(some_tree) and _with_names(some_tree, names) == other
