"""Point [5]: the text of a tree, how it is read, and the faults that are told by lines."""

import itertools
import unittest

from tests.samples import trees
from treeserved.errors import LineError, ShapeError, TreeError
from treeserved.trees import tree
from treeserved.treetext import format_tree, read_tree

ONE = tree([("only", 9)], [])
TWO = tree([("y", 0), ("x", 999)], [("y", "x", 10)])
TWELVE = tree(
    [("m", 1), ("a", 0), ("b2", 20), ("b10", 999), ("c", 7), ("d", 100), ("e", 0), ("fghijklm", 3), ("g", 45),
     ("h1", 600), ("x", 99), ("z", 10)],
    [("m", "a", 1), ("m", "b2", 999), ("z", "m", 30), ("c", "b10", 8), ("b2", "b10", 12), ("d", "x", 100),
     ("e", "x", 5), ("x", "c", 47), ("fghijklm", "z", 6), ("g", "z", 7), ("h1", "g", 90)])
TWELVE_TEXT = """node a 0
node b10 999
node b2 20
node c 7
node d 100
node e 0
node fghijklm 3
node g 45
node h1 600
node m 1
node x 99
node z 10
edge a m 1
edge b10 b2 12
edge b10 c 8
edge b2 m 999
edge c x 47
edge d x 100
edge e x 5
edge fghijklm z 6
edge g h1 90
edge g z 7
edge m z 30
"""
LINES = ["node a 1", "node b 0", "node c 2", "edge a b 3", "edge b c 4"]
MADE = tree([("a", 1), ("b", 0), ("c", 2)], [("a", "b", 3), ("b", "c", 4)])
NO_NAMES = ("abcdefghi", "1a", "1", "A", "aB", "Ab", "a-b", "a_", "a.b", "{", "node+")
NO_NUMBERS = ("+1", "-1", "-0", "+0", "00", "07", "000", "007", "0000", "1000", "9999", "10000", "a", "1a", "a1", "1.0",
              "1_0", "0x1", "1,", "'1'", "1" * 5000)


class Texts(unittest.TestCase):
    def fault(self, text):
        """What is wrong with a text, and in which line."""
        with self.assertRaises(LineError) as caught:
            read_tree(text)
        return caught.exception.what, caught.exception.line

    def both_ends(self, lines, wanted):
        """Check that the lines have the fault, with the last newline and without it."""
        self.assertEqual(self.fault("\n".join(lines)), wanted, lines)
        self.assertEqual(self.fault("\n".join(lines) + "\n"), wanted, lines)

    def not_understood(self, line):
        """Check that the line is not understood, wherever it stands."""
        self.assertEqual(self.fault(line + "\n"), ("not understood", 1), line)
        for at in range(len(LINES) + 1):
            self.both_ends(LINES[:at] + [line] + LINES[at:], ("not understood", at + 1))


class TestFormat(unittest.TestCase):
    def test_one_node(self):
        self.assertEqual(format_tree(ONE), "node only 9\n")

    def test_two_nodes(self):
        self.assertEqual(format_tree(TWO), "node x 999\nnode y 0\nedge x y 10\n")

    def test_twelve_nodes(self):
        self.assertEqual(format_tree(TWELVE), TWELVE_TEXT)

    def test_edges_longer_than_tree_takes(self):
        # [19]: a grown tree may have such edges.
        self.assertEqual(format_tree(((("a", 0), ("b", 0)), (("a", "b", 40000),))), "node a 0\nnode b 0\nedge a b 40000\n")


class TestRead(Texts):
    def test_texts_of_trees(self):
        for some_tree in trees() + [ONE, TWO, TWELVE]:
            text = format_tree(some_tree)
            self.assertEqual(read_tree(text), some_tree)
            self.assertEqual(read_tree(text[:-1]), some_tree)

    def test_a_written_text(self):
        self.assertEqual(read_tree(TWELVE_TEXT), TWELVE)
        self.assertEqual(read_tree("node only 9"), ((("only", 9),), ()))

    def test_every_order_of_the_lines(self):
        for lines in itertools.permutations(LINES):
            self.assertEqual(read_tree("\n".join(lines) + "\n"), MADE)
            self.assertEqual(read_tree("\n".join(lines)), MADE)

    def test_names_of_edges_in_either_order(self):
        for one, two in itertools.product(("edge a b 3", "edge b a 3"), ("edge b c 4", "edge c b 4")):
            self.assertEqual(read_tree("\n".join(LINES[:3] + [one, two])), MADE)
            self.assertEqual(read_tree("\n".join([two, one] + LINES[:3])), MADE)

    def test_kinds(self):
        nodes, edges = read_tree(TWELVE_TEXT)
        self.assertEqual([type(part) for part in (nodes, edges)], [tuple, tuple])
        self.assertEqual({tuple(type(value) for value in row) for row in nodes}, {(str, int)})
        self.assertEqual({tuple(type(value) for value in row) for row in edges}, {(str, str, int)})

    def test_numbers_of_one_to_three_digits(self):
        for number in (0, 1, 9, 10, 90, 99, 100, 101, 900, 999):
            self.assertEqual(read_tree(f"node a {number}\n"), ((("a", number),), ()))
            if number > 0:
                text = f"node a 0\nnode b 0\nedge a b {number}\n"
                self.assertEqual(read_tree(text)[1], (("a", "b", number),))

    def test_the_first_words_are_names_too(self):
        self.assertEqual(read_tree("edge node edge 1\nnode node 2\nnode edge 3\n"),
                         ((("edge", 3), ("node", 2)), (("edge", "node", 1),)))


class TestNotUnderstood(Texts):
    def test_an_empty_line(self):
        for at in range(len(LINES)):
            self.both_ends(LINES[:at] + [""] + LINES[at:], ("not understood", at + 1))

    def test_a_text_that_is_one_newline(self):
        self.assertEqual(self.fault("\n"), ("not understood", 1))
        self.assertEqual(self.fault("\n\n"), ("not understood", 1))

    def test_two_newlines_behind_the_last_line(self):
        self.assertEqual(self.fault("\n".join(LINES) + "\n\n"), ("not understood", 6))
        self.assertEqual(self.fault("\n".join(LINES) + "\n\n\n"), ("not understood", 6))
        self.assertEqual(self.fault("node a 1\n\n"), ("not understood", 2))

    def test_blank_lines(self):
        for line in (" ", "  ", "   ", "    "):
            self.not_understood(line)
            self.assertEqual(self.fault("node a 1\n" + line), ("not understood", 2))

    def test_two_spaces_between_words(self):
        for line in ("node  d 1", "node d  1", "edge  a b 1", "edge a  b 1", "edge a b  1", "node   d 1"):
            self.not_understood(line)

    def test_a_space_in_front_or_behind(self):
        for line in (" node d 1", "node d 1 ", " edge a b 1", "edge a b 1 ", "  node d 1", "node d 1  "):
            self.not_understood(line)

    def test_an_unknown_first_word(self):
        for word in ("Node", "NODE", "nodes", "nod", "n", "tree", "1", "nodeedge", "#"):
            self.not_understood(word + " d 1")
            self.not_understood(word + " a b 1")
        for word in ("Edge", "EDGE", "edges", "edg", "path", "0"):
            self.not_understood(word + " a b 1")
            self.not_understood(word + " d 1")

    def test_a_word_too_few(self):
        for line in ("node", "node d", "node 1", "edge", "edge a", "edge a b", "edge a 1", "edge 1", "d 1", "a b 1"):
            self.not_understood(line)

    def test_a_word_too_many(self):
        for line in ("node d 1 1", "node d e 1", "node d 1 e", "edge a b 1 1", "edge a b c 1", "edge a b 1 c",
                     "node node d 1", "edge edge a b 1"):
            self.not_understood(line)

    def test_a_name_that_is_none(self):
        for name in NO_NAMES:
            self.not_understood(f"node {name} 1")
            self.not_understood(f"edge {name} a 1")
            self.not_understood(f"edge a {name} 1")

    def test_a_number_that_is_none(self):
        for number in NO_NUMBERS:
            self.not_understood(f"node d {number}")
            self.not_understood(f"edge a b {number}")

    def test_an_empty_number(self):
        self.not_understood("node d ")
        self.not_understood("edge a b ")

    def test_name_and_number_in_the_wrong_order(self):
        self.not_understood("node 1 d")
        self.not_understood("edge 1 a b")
        self.not_understood("edge a 1 b")

    def test_the_first_one_of_several(self):
        self.both_ends(["node a 1", "node B 1", "node c 01", ""], ("not understood", 2))
        self.both_ends(["edge a b", "node B 1"], ("not understood", 1))

    def test_it_comes_before_faults_of_nodes_in_earlier_lines(self):
        self.both_ends(["node a 1", "node a 1", "node b +1"], ("not understood", 3))
        self.both_ends([f"node n{k} 1" for k in range(13)] + ["node N 1"], ("not understood", 14))

    def test_it_comes_before_faults_of_edges_in_earlier_lines(self):
        self.both_ends(LINES[:3] + ["edge a q 1", "edge a b 1", "word"], ("not understood", 6))
        self.both_ends(["edge a b 0"] + LINES[:3] + ["node d"], ("not understood", 5))
        self.both_ends(LINES + ["edge a c 1", "edge a a 00"], ("not understood", 7))


class TestFaultsOfNodes(Texts):
    def test_named_twice(self):
        self.both_ends(["node a 1", "node a 1"], ("named twice", 2))
        self.both_ends(LINES + ["node b 5"], ("named twice", 6))

    def test_named_twice_among_lines_of_edges(self):
        self.both_ends(["edge a b 3", "node b 1", "edge c b 2", "node a 1", "edge a d 1", "node b 2", "node a 2"],
                       ("named twice", 6))

    def test_wrong_number_of_nodes_is_told_behind_all_lines(self):
        many = [f"node n{k} 1" for k in range(13)]
        self.both_ends(many, ("wrong number of nodes", 14))
        chain = [f"edge n{k} n{k + 1} 1" for k in range(12)]
        mixed = [line for pair in itertools.zip_longest(chain, many) for line in pair if line]
        self.both_ends(mixed, ("wrong number of nodes", 26))
        self.both_ends(["edge a b 1"], ("wrong number of nodes", 2))
        self.both_ends(["edge a b 1", "edge a c 1"], ("wrong number of nodes", 3))

    def test_the_empty_text(self):
        self.assertEqual(self.fault(""), ("wrong number of nodes", 1))

    def test_they_come_before_faults_of_edges_in_earlier_lines(self):
        self.both_ends(["edge a q 1", "node a 1", "node a 1"], ("named twice", 3))
        self.both_ends(["edge a b 0", "edge a a 1"] + LINES + ["node c 1"], ("named twice", 8))
        self.both_ends(["edge n0 n0 0"] + [f"node n{k} 1" for k in range(13)], ("wrong number of nodes", 15))

    def test_named_twice_comes_before_the_wrong_number(self):
        self.both_ends([f"node n{k} 1" for k in range(13)] + ["node n3 1"], ("named twice", 14))


class TestFaultsOfEdges(Texts):
    def test_unknown_node(self):
        for line in ("edge a d 1", "edge d a 1", "edge d e 1", "edge d d 1", "edge a d 0"):
            self.both_ends(LINES + [line], ("unknown node", 6))
            self.both_ends([line] + LINES, ("unknown node", 1))
            self.both_ends(LINES[:2] + [line] + LINES[2:], ("unknown node", 3))

    def test_wrong_length(self):
        self.both_ends(LINES[:4] + ["edge b c 0"], ("wrong length", 5))
        self.both_ends(["edge c b 0"] + LINES[:4], ("wrong length", 1))
        self.both_ends(["node c 1", "edge c c 0", "node a 0", "node b 0"], ("wrong length", 2))

    def test_joined_already(self):
        self.both_ends(["node a 0", "edge a a 1"], ("joined already", 2))
        self.both_ends(LINES + ["edge c a 1"], ("joined already", 6))
        self.both_ends(LINES + ["edge b a 3"], ("joined already", 6))
        self.both_ends(["edge a b 1", "node a 0", "edge b c 1", "node c 0", "edge c a 1", "node b 0", "edge a b 1"],
                       ("joined already", 5))

    def test_not_joined_is_told_behind_all_lines(self):
        self.both_ends(["node a 0", "node b 0"], ("not joined", 3))
        self.both_ends(LINES[:4], ("not joined", 5))
        self.both_ends(["edge c a 1", "node a 0", "node d 1", "edge d b 1", "node c 0", "node b 0"], ("not joined", 7))

    def test_the_first_one_in_the_order_of_the_lines(self):
        self.both_ends(LINES[:3] + ["edge a b 0", "edge a d 1"], ("wrong length", 4))
        self.both_ends(LINES[:3] + ["edge a d 1", "edge a b 0"], ("unknown node", 4))
        self.both_ends(["edge a a 1", "edge a b 0"] + LINES[:3], ("joined already", 1))

    def test_the_first_one_of_one_line(self):
        self.both_ends(["edge d d 0"] + LINES, ("unknown node", 1))
        self.both_ends(["edge a a 0"] + LINES, ("wrong length", 1))


class TestError(Texts):
    def test_kinds(self):
        for text in ("", "\n", "node a 1\nnode a 1", "node a 1\nedge a a 1", "node a 1\nnode b 1"):
            for kind in (LineError, TreeError, ValueError):
                with self.assertRaises(kind) as caught:
                    read_tree(text)
                self.assertNotIsInstance(caught.exception, ShapeError)
                self.assertIs(type(caught.exception.line), int)


if __name__ == "__main__":
    unittest.main()
