"""Courts: claims that bring their papers along, and the judge who tells whether they hold."""

from treeserved.alike import normal_form, renaming, shows_alike
from treeserved.centers import branches, center, farthest_pair, is_median, medians
from treeserved.groups import are_apart, are_hit, hit
from treeserved.loads import plan, prices, surplus
from treeserved.metrics import breaks_rule, distance_in, four_places, grown
from treeserved.parts import cuts, is_right, ledger, parts_of
from treeserved.places import is_place, number, reach
from treeserved.routes import beyond, round_of, round_reason, walk_length
from treeserved.stands import are_too_far, do_serve, stands
from treeserved.trees import are_nodes, distance, lengths_of, names_of, whole_weight


def about_center(some_tree):
    """Return the claim about the center of a tree."""
    return "center", some_tree, center(some_tree), farthest_pair(some_tree)


def about_median(some_tree):
    """Return the claim about the first median of a tree."""
    name = medians(some_tree)[0]
    return "median", some_tree, name, branches(some_tree, name)


def about_groups(some_tree, family):
    """Return the claim about the nodes that hit a family of groups."""
    names, indices = hit(some_tree, family)
    return "hit", some_tree, list(family), names, indices


def about_stands(some_tree, far):
    """Return the claim about the stands for a distance."""
    names, witnesses = stands(some_tree, far)
    return "stands", some_tree, far, names, witnesses


def about_table(some_table):
    """Return the claim about the tree of a table, or that there is none."""
    names = four_places(some_table)
    if names is not None:
        return "no tree", some_table, names
    return "grown", some_table, grown(some_table)


def about_trees(some_tree, other):
    """Return the claim that two trees are alike, or that they are not."""
    names = renaming(some_tree, other)
    if names is not None:
        return "alike", some_tree, other, names
    return "not alike", some_tree, other, normal_form(some_tree), normal_form(other)


def about_round(some_tree, start, wanted):
    """Return the claim about the round of a start and wanted nodes."""
    walk = round_of(some_tree, start, wanted)
    return "round", some_tree, start, list(wanted), walk, round_reason(some_tree, start, wanted)


def about_loads(some_tree, first, second):
    """Return the claim about the plan that moves the first load into the second one."""
    moves = plan(some_tree, first, second)
    return "moved", some_tree, list(first), list(second), moves, prices(some_tree, first, second)


def about_parts(some_tree, bound):
    """Return the claim about the fewest cuts for a bound, or None if a node is too heavy."""
    edges = cuts(some_tree, bound)
    if edges is None:
        return None
    return "parts", some_tree, bound, edges, ledger(some_tree, bound)


def _center_holds(some_tree, place, pair):
    if len(pair) != 2 or not are_nodes(some_tree, pair) or not is_place(some_tree, place):
        return False
    return reach(some_tree, place) == number(distance(some_tree, pair[0], pair[1]), 2)


def _median_holds(some_tree, name, weights):
    return are_nodes(some_tree, [name]) and weights == branches(some_tree, name) and is_median(some_tree, name)


def _hit_holds(_, family, names, indices):
    # The tree adds nothing: whoever hits groups that are apart hits them in any tree.
    return are_hit(family, names) and are_apart(family, indices) and len(names) == len(indices)


def _stands_holds(some_tree, far, names, witnesses):
    if len(names) != len(witnesses):
        return False
    return do_serve(some_tree, names, far) and are_too_far(some_tree, witnesses, far)


def _grown_holds(some_table, some_tree):
    names = some_table[0]
    if not are_nodes(some_tree, names):
        return False
    pairs = [(one, other) for one in names for other in names]
    return all([distance(some_tree, one, other) == 2 * distance_in(some_table, one, other) for one, other in pairs])


def _no_tree_holds(some_table, names):
    if len(names) != 4 or not all([name in some_table[0] for name in names]):
        return False
    return breaks_rule(some_table, names)


def _alike_holds(some_tree, other, names):
    return shows_alike(some_tree, other, names)


def _not_alike_holds(some_tree, other, form, other_form):
    return form == normal_form(some_tree) and other_form == normal_form(other) and form != other_form


def _round_holds(some_tree, start, wanted, walk, reason):
    far = walk_length(some_tree, walk)
    if far is None or walk[0] != start or walk[-1] != start or not all([name in walk for name in wanted]):
        return False
    edges = [edge for edge, _ in reason]
    if not _are_edges(some_tree, edges):
        return False
    if not all([name in wanted and name in beyond(some_tree, start, edge) for edge, name in reason]):
        return False
    lengths = lengths_of(some_tree)
    return far == 2 * sum([lengths[edge] for edge in edges])


def _are_edges(some_tree, pairs):
    """Tell whether pairs of strings are different edges of a tree."""
    lengths = lengths_of(some_tree)
    return len(set(pairs)) == len(pairs) and all([pair in lengths for pair in pairs])


def _moved_holds(some_tree, first, second, moves, worths):
    if not are_nodes(some_tree, [name for name, _ in first + second]):
        return False
    if [name for name, _ in worths] != names_of(some_tree):
        return False
    worth = dict(worths)
    more = surplus(some_tree, first, second)
    if not _do_move(some_tree, more, moves) or not _are_fair(some_tree, worth):
        return False
    whole = sum([amount * distance(some_tree, one, other) for one, other, amount in moves])
    return whole == sum([worth[name] * more[name] for name in more])


def _do_move(some_tree, more, moves):
    """Tell whether moves of numbers greater than 0 between nodes leave nothing of a surplus."""
    left = dict(more)
    for one, other, amount in moves:
        if not are_nodes(some_tree, [one, other]) or amount <= 0:
            return False
        left[one] -= amount
        left[other] += amount
    return not any(left.values())


def _are_fair(some_tree, worth):
    return all([abs(worth[one] - worth[other]) <= length for one, other, length in some_tree[1]])


def _parts_holds(some_tree, bound, edges, rows):
    if not _are_edges(some_tree, edges) or not is_right(some_tree, bound, rows):
        return False
    light = all([whole_weight(part) <= bound for part in parts_of(some_tree, edges)])
    return light and rows[0][1] == len(edges)


# What tells whether a claim holds, by the first word of the claim.
JUDGES = {
    "center": _center_holds,
    "median": _median_holds,
    "hit": _hit_holds,
    "stands": _stands_holds,
    "grown": _grown_holds,
    "no tree": _no_tree_holds,
    "alike": _alike_holds,
    "not alike": _not_alike_holds,
    "round": _round_holds,
    "moved": _moved_holds,
    "parts": _parts_holds,
}


def judge(claim):
    """Tell whether a claim holds."""
    if claim[0] not in JUDGES:
        return False
    holds = JUDGES[claim[0]]
    papers = claim[1:]
    return holds(*papers)


def judge_all(claims):
    """Return the list of the indices of the claims that do not hold."""
    return [index for index, claim in enumerate(claims) if not judge(claim)]
