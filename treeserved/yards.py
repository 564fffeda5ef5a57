"""Yards: trees that are cut and joined, by deeds that can be taken back."""

from treeserved.errors import YardError
from treeserved.limits import GREAT, NODES
from treeserved.trees import are_nodes, distances_from, forest, is_name, names_of, ordered


class Yard:
    """A yard of trees; at first it has none."""

    def __init__(self):
        self._log = []
        # The nodes and edges at first, and behind each deed of the log.
        self._held = [((), ())]

    @property
    def trees(self):
        """The list of the trees, ascending by their first nodes."""
        nodes, edges = self._held[-1]
        return forest(nodes, edges)

    @property
    def log(self):
        """The list of the deeds that were done and not taken back."""
        return list(self._log)

    def add(self, name, weight):
        """Add a new node, a tree of its own."""
        _check_names([name])
        if name in self:
            raise YardError("known")
        if len(self) >= NODES:
            raise YardError("full")
        _check_number(weight, 0)
        nodes, edges = self._held[-1]
        self._keep(("add", name, weight), nodes + ((name, weight),), edges)

    def join(self, first, second, length):
        """Join two nodes of different trees by an edge."""
        self._check_known([first, second])
        if self.distance(first, second) is not None:
            raise YardError("one tree")
        _check_number(length, 1)
        nodes, edges = self._held[-1]
        self._keep(("join", first, second, length), nodes, edges + ((first, second, length),))

    def cut(self, first, second):
        """Take an edge away."""
        others = self._other_edges(first, second)
        self._keep(("cut", first, second), self._held[-1][0], others)

    def stretch(self, first, second, length):
        """Give an edge another length."""
        others = self._other_edges(first, second)
        _check_number(length, 1)
        self._keep(("stretch", first, second, length), self._held[-1][0], others + [(first, second, length)])

    def weigh(self, name, weight):
        """Give a node another weight."""
        self._check_known([name])
        _check_number(weight, 0)
        nodes, edges = self._held[-1]
        others = [row for row in nodes if row[0] != name]
        self._keep(("weigh", name, weight), others + [(name, weight)], edges)

    def undo(self):
        """Take back the last deed and return its name, or False if there is none."""
        if not self._log:
            return False
        self._held.pop()
        return self._log.pop()[0]

    def tree_with(self, name):
        """Return the tree that has a node."""
        found = [some_tree for some_tree in self.trees if name in names_of(some_tree)]
        if not found:
            raise YardError("unknown")
        return found[0]

    def distance(self, first, second):
        """Return the distance of two nodes, or None if they are in different trees."""
        if not are_nodes(self._held[-1], [first, second]):
            raise YardError("unknown")
        return distances_from(self._held[-1], first).get(second)

    def branch(self):
        """Return a new yard that is like this one, also in what can be taken back."""
        other = Yard()
        other._log = list(self._log)
        other._held = list(self._held)
        return other

    def __len__(self):
        return len(self._held[-1][0])

    def __contains__(self, name):
        return isinstance(name, str) and are_nodes(self._held[-1], [name])

    def __eq__(self, other):
        if not isinstance(other, Yard):
            return NotImplemented
        return self._held[-1] == other._held[-1]

    def _keep(self, deed, nodes, edges):
        self._log.append(deed)
        self._held.append(ordered(nodes, edges))

    def _check_known(self, names):
        _check_names(names)
        if not are_nodes(self._held[-1], names):
            raise YardError("unknown")

    def _other_edges(self, first, second):
        """Return the list of all edges but that of two nodes; raise YardError if there is none."""
        self._check_known([first, second])
        edges = self._held[-1][1]
        others = [edge for edge in edges if edge[:2] != (min(first, second), max(first, second))]
        if len(others) == len(edges):
            raise YardError("no edge")
        return others


def _check_names(names):
    if not all([is_name(name) for name in names]):
        raise YardError("wrong name")


def _check_number(number, least):
    if not least <= number <= GREAT:
        raise YardError("wrong number")


def replayed(log):
    """Return a new yard on which the deeds of a log were done."""
    yard = Yard()
    for deed in log:
        _do_again(yard, deed)
    return yard


def _do_again(yard, deed):
    word, name = deed[:2]
    if word == "add":
        yard.add(name, deed[2])
    elif word == "join":
        yard.join(name, deed[2], deed[3])
    elif word == "cut":
        yard.cut(name, deed[2])
    elif word == "stretch":
        yard.stretch(name, deed[2], deed[3])
    elif word == "weigh":
        yard.weigh(name, deed[2])
