"""Walks: the shortest round and the shortest trip through wanted nodes, and the reasons why none is shorter."""

from treeserved.trees import away_from, distances_from, lengths_of, names_of, neighbors, path, sides


def needed(some_tree, start, wanted):
    """Return the list of the edges that part the start from some wanted node, ascending."""
    return [edge for edge in lengths_of(some_tree) if _wanted_beyond(some_tree, start, wanted, edge)]


def _wanted_beyond(some_tree, start, wanted, edge):
    return [name for name in beyond(some_tree, start, edge) if name in wanted]


def beyond(some_tree, start, edge):
    """Return the list of the nodes that an edge, a pair of nodes, parts from the start, ascending."""
    near, other = sides(some_tree, edge[0], edge[1])
    return other if start in near else near


def walk_length(some_tree, walk):
    """Return the length of a walk, or None if a list of strings is none."""
    if not walk or walk[0] not in names_of(some_tree):
        return None
    total = 0
    for here, there in zip(walk, walk[1:]):
        lengths = dict(neighbors(some_tree, here))
        if there not in lengths:
            return None
        total += lengths[there]
    return total


def round_of(some_tree, start, wanted):
    """Return a shortest walk from the start to the start through all wanted nodes."""
    return _walk_on(_needed_ways(some_tree, start, wanted), start, [])


def trip_of(some_tree, start, wanted):
    """Return a shortest walk from the start through all wanted nodes, to a farthest one of them."""
    onward = path(some_tree, start, _end_of_trip(some_tree, start, wanted))
    return _walk_on(_needed_ways(some_tree, start, wanted), start, onward)


def _end_of_trip(some_tree, start, wanted):
    gone = distances_from(some_tree, start)
    # The start is there if no node is wanted, and otherwise it is nearer than the farthest one, or is itself that one.
    return min([(-gone[name], name) for name in [start, *wanted]])[1]


def _needed_ways(some_tree, start, wanted):
    """Return a dict with the neighbors of each node to which a needed edge leads away from the start, ascending."""
    edges = needed(some_tree, start, wanted)
    ways = away_from(some_tree, start)
    return {name: [other for other, _ in ways[name] if (min(name, other), max(name, other)) in edges] for name in ways}


def _walk_on(ways, name, onward):
    """Return the walk from a node through all that is beyond it, and back; on the path onward, to the end of this."""
    walk = [name]
    for other in ways[name]:
        if other not in onward:
            walk = walk + _walk_on(ways, other, onward) + [name]
    for other in ways[name]:
        if other in onward:
            walk = walk + _walk_on(ways, other, onward)
    return walk


def round_reason(some_tree, start, wanted):
    """Return the list of the pairs (needed edge, least wanted node beyond it), ascending."""
    edges = needed(some_tree, start, wanted)
    return [(edge, min(_wanted_beyond(some_tree, start, wanted, edge))) for edge in edges]


def trip_reason(some_tree, start, wanted):
    """Return the pair of the reason for the round and the end of the trip."""
    return round_reason(some_tree, start, wanted), _end_of_trip(some_tree, start, wanted)
