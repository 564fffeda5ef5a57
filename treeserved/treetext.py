"""Trees as texts: a line for each node, and a line for each edge."""

from treeserved.errors import LineError, ShapeError
from treeserved.trees import is_name, tree

# How many names follow each first word of a line, ahead of its number.
NAME_COUNTS = {"node": 1, "edge": 2}

# What `tree` finds wrong with edges; all else is wrong with nodes.
EDGE_FAULTS = ("unknown node", "wrong length", "joined already", "not joined")

# The most digits of a number.
MOST_DIGITS = 3


def format_tree(some_tree):
    """Return the text of a tree."""
    nodes, edges = some_tree
    node_lines = [f"node {name} {weight}\n" for name, weight in nodes]
    edge_lines = [f"edge {first} {second} {length}\n" for first, second, length in edges]
    return "".join(node_lines + edge_lines)


def read_tree(text):
    """Return the tree that a text tells."""
    rows = [line.split(" ") for line in _lines_of(text)]
    for at, words in enumerate(rows, start=1):
        if not _is_understood(words):
            raise LineError("not understood", at)
    nodes = [(words[1], int(words[2])) for words in rows if words[0] == "node"]
    edges = [(words[1], words[2], int(words[3])) for words in rows if words[0] == "edge"]
    try:
        return tree(nodes, edges)
    except ShapeError as fault:
        first_word = "edge" if fault.what in EDGE_FAULTS else "node"
        told = [at for at, words in enumerate(rows, start=1) if words[0] == first_word]
        # The place behind the last node, or the last edge, is told as the line behind all lines.
        told.append(len(rows) + 1)
        raise LineError(fault.what, told[fault.place]) from None


def _lines_of(text):
    lines = text.split("\n")
    # What stands behind the last newline is a line only if it is not empty.
    return lines if lines[-1] else lines[:-1]


def _is_understood(words):
    if words[0] not in NAME_COUNTS or len(words) != NAME_COUNTS[words[0]] + 2:
        return False
    return all([is_name(word) for word in words[1:-1]]) and _is_number(words[-1])


def _is_number(word):
    # A number is written back without zeros in front, so a word that has some differs from it.
    return word.isdigit() and len(word) <= MOST_DIGITS and word == str(int(word))
