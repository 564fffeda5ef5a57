"""Tables of distances, and the trees that have them."""

from itertools import combinations, product

from treeserved.errors import MetricError
from treeserved.limits import FAR, TABLE
from treeserved.trees import distances_from, is_name, ordered


def table(pairs):
    """Make a table of a list of triples (name, name, distance), one for each two different names."""
    far = {}
    for place, (first, second, length) in enumerate(pairs):
        if not is_name(first) or not is_name(second) or first == second:
            raise MetricError("wrong name", place)
        if not 1 <= length <= FAR:
            raise MetricError("wrong distance", place)
        if (first, second) in far:
            raise MetricError("named twice", place)
        far[first, second] = length
        far[second, first] = length
    names = sorted({first for first, _ in far})
    if not names:
        raise MetricError("no pairs", -1)
    if len(names) > TABLE:
        raise MetricError("too many names", -1)
    if len(far) < len(names) * (len(names) - 1):
        raise MetricError("missing pair", -1)
    return tuple(names), tuple([tuple([far.get((one, other), 0) for other in names]) for one in names])


def table_of(some_tree, names):
    """Return the table of the distances of different nodes of a tree."""
    chosen = sorted(names)
    rows = [distances_from(some_tree, name) for name in chosen]
    return tuple(chosen), tuple([tuple([row[name] for name in chosen]) for row in rows])


def distance_in(some_table, first, second):
    """Return the distance of two names of a table."""
    names, rows = some_table
    return rows[names.index(first)][names.index(second)]


def breaks_rule(some_table, names):
    """Tell whether four names of a table, some perhaps equal, break the rule of the distances in trees."""
    first, second, third, fourth = names
    ways = [(first, second, third, fourth), (first, third, second, fourth), (first, fourth, second, third)]
    sums = sorted([distance_in(some_table, w, x) + distance_in(some_table, y, z) for w, x, y, z in ways])
    return sums[2] > sums[1]


def four_places(some_table):
    """Return the first four names, ascending, some perhaps equal, that break the rule; None if none do."""
    names = list(some_table[0])
    for four in product(names, names, names, names):
        if list(four) == sorted(four) and breaks_rule(some_table, four):
            return four
    return None


def three_places(some_table):
    """Return the first three names, ascending, whose two greatest distances are not equal; None if there are none."""
    names = list(some_table[0])
    for first, second, third in combinations(names, 3):
        ways = [(first, second), (first, third), (second, third)]
        far = sorted([distance_in(some_table, one, other) for one, other in ways])
        if far[2] > far[1]:
            return first, second, third
    return None


def grown(some_table):
    """Return the tree with twice the distances of a table; None if there is no tree with its distances."""
    if four_places(some_table) is not None:
        return None
    names, rows = some_table
    # A node of the tree is told by its distances to the names, in order.
    spots = {name: tuple([2 * far for far in row]) for name, row in zip(names, rows)}
    hidden = _hidden(rows)
    for name, spot in zip(_hidden_names(names, len(hidden)), hidden):
        spots[name] = spot
    return ordered([(name, 0) for name in spots], _edges_between(spots))


def _hidden(rows):
    """Return, ascending, the distances of each hidden node to the names: it is the meeting of some three names."""
    found = [_meeting_spot(rows, i, j, k) for i, j, k in combinations(range(len(rows)), 3)]
    # A meeting that has the distance 0 to a name is this name.
    return sorted({spot for spot in found if min(spot) > 0})


def _meeting_spot(rows, i, j, k):
    """Return the tuple of the distances of the meeting of three names, told by their indices, to all names."""
    to_i = rows[i][j] + rows[i][k] - rows[j][k]
    to_j = rows[i][j] + rows[j][k] - rows[i][k]
    # The way from one of the two names at least to any name goes through the meeting, and no way is shorter.
    return tuple([max(2 * row[i] - to_i, 2 * row[j] - to_j) for row in rows])


def _hidden_names(names, many):
    # No more than all names of the table are passed over.
    numbered = [f"h{count}" for count in range(1, many + len(names) + 1)]
    return [name for name in numbered if name not in names][:many]


def _edges_between(spots):
    """Return the list of the edges between nodes that have no other node on the way between them."""
    found = []
    names = list(spots)
    for first, second in combinations(names, 2):
        far = _gap(spots[first], spots[second])
        others = [spots[name] for name in names if name not in (first, second)]
        if not any([_gap(spots[first], spot) + _gap(spot, spots[second]) == far for spot in others]):
            found.append((first, second, far))
    return found


def _gap(spot, other):
    # Each way between two nodes can be lengthened to a name, so their distances to this name differ by the way.
    return max([abs(here - there) for here, there in zip(spot, other)])
