"""Points [3] and [4]: what `tree` makes, and the faults that it finds, in their order."""

import itertools
import unittest

from treeserved.errors import ShapeError, TreeError
from treeserved.trees import is_name, tree

NODES = [("a", 1), ("b", 0), ("c", 2), ("d", 1)]
EDGES = [("b", "a", 3), ("b", "c", 4), ("d", "b", 2)]
MADE = ((("a", 1), ("b", 0), ("c", 2), ("d", 1)), (("a", "b", 3), ("b", "c", 4), ("b", "d", 2)))
WRONG_NAMES = ("", "abcdefghi", "1a", "1", "A", "aB", "a b", " ", " a", "a ", "a-b", "a_b", "_a", "a\n", "\n", "a.b",
               "{a", "a{", "`a", "a`", "a/", "a:", "-")
RIGHT_NAMES = ("a", "z", "a0", "z9", "abcdefgh", "a1234567", "x", "q7q", "m")


class Faults(unittest.TestCase):
    def fault(self, nodes, edges):
        """What and where tree says that something is wrong, having checked that it changes no argument."""
        kept = (list(nodes), list(edges))
        with self.assertRaises(ShapeError) as caught:
            tree(nodes, edges)
        self.assertEqual((nodes, edges), kept)
        return caught.exception.what, caught.exception.place


def many(count):
    return [("n" + str(k), k) for k in range(count)]


def chain(count):
    return [("n" + str(k), "n" + str(k + 1), 1) for k in range(count - 1)]


class TestTree(unittest.TestCase):
    def test_nodes_and_edges_come_ascending_with_the_lesser_name_first(self):
        self.assertEqual(tree(NODES, EDGES), MADE)

    def test_every_order_of_the_nodes_gives_the_same_tree(self):
        for nodes in itertools.permutations(NODES):
            self.assertEqual(tree(list(nodes), EDGES), MADE)

    def test_every_order_of_the_edges_and_of_their_names_gives_the_same_tree(self):
        for edges in itertools.permutations(EDGES):
            for turns in itertools.product((False, True), repeat=3):
                turned = [(b, a, n) if turn else (a, b, n) for (a, b, n), turn in zip(edges, turns)]
                self.assertEqual(tree(NODES, turned), MADE)

    def test_edges_are_ordered_by_names_before_lengths(self):
        made = tree([("c", 0), ("a", 0), ("b", 0)], [("c", "a", 1), ("b", "a", 999)])
        self.assertEqual(made[1], (("a", "b", 999), ("a", "c", 1)))
        made = tree([("c", 0), ("a", 0), ("b", 0)], [("c", "b", 1), ("b", "a", 999)])
        self.assertEqual(made[1], (("a", "b", 999), ("b", "c", 1)))

    def test_names_are_ordered_as_strings(self):
        made = tree([("b", 0), ("a10", 1), ("a2", 2), ("a", 3), ("ab", 4)],
                    [("b", "a", 1), ("b", "a2", 1), ("b", "a10", 1), ("ab", "b", 1)])
        self.assertEqual([name for name, _ in made[0]], ["a", "a10", "a2", "ab", "b"])
        self.assertEqual([edge[:2] for edge in made[1]], [("a", "b"), ("a10", "b"), ("a2", "b"), ("ab", "b")])

    def check_kinds(self, made):
        self.assertIs(type(made), tuple)
        self.assertEqual(len(made), 2)
        for part, kinds in zip(made, ([str, int], [str, str, int])):
            self.assertIs(type(part), tuple)
            for row in part:
                self.assertIs(type(row), tuple)
                self.assertEqual([type(value) for value in row], kinds)

    def test_a_tree_is_a_pair_of_tuples_of_tuples(self):
        self.check_kinds(tree(NODES, EDGES))
        self.check_kinds(tree(many(12), chain(12)))

    def test_a_single_node_without_an_edge_is_such_a_pair_too(self):
        made = tree([("a", 5)], [])
        self.assertEqual(made, ((("a", 5),), ()))
        self.check_kinds(made)

    def test_arguments_stay_as_they_are(self):
        nodes, edges = list(reversed(NODES)), list(EDGES)
        tree(nodes, edges)
        self.assertEqual((nodes, edges), (list(reversed(NODES)), EDGES))

    def test_later_changes_of_the_arguments_do_not_change_the_tree(self):
        nodes, edges = list(NODES), list(EDGES)
        made = tree(nodes, edges)
        nodes.clear()
        edges.pop()
        self.assertEqual(made, MADE)


class TestNodeFaults(Faults):
    def test_wrong_name(self):
        for name in WRONG_NAMES:
            self.assertEqual(self.fault([(name, 1)], []), ("wrong name", 0), name)
            self.assertEqual(self.fault([("a", 1), ("b", 1), (name, 1)], [("a", "b", 1)]), ("wrong name", 2), name)
            self.assertFalse(is_name(name), name)

    def test_right_name(self):
        for name in RIGHT_NAMES:
            self.assertEqual(tree([(name, 1)], []), (((name, 1),), ()))
            self.assertTrue(is_name(name), name)

    def test_every_single_character(self):
        letters, digits = "abcdefghijklmnopqrstuvwxyz", "0123456789"
        for sign in [chr(code) for code in range(32, 127)] + ["\n"]:
            self.assertEqual(is_name(sign), sign in letters, sign)
            self.assertEqual(is_name("a" + sign), sign in letters + digits, sign)
            self.assertEqual(is_name("abc" + sign + "ef"), sign in letters + digits, sign)

    def test_named_twice(self):
        self.assertEqual(self.fault([("a", 1), ("a", 1)], []), ("named twice", 1))
        self.assertEqual(self.fault([("a", 1), ("b", 1), ("c", 1), ("a", 2), ("b", 1)], []), ("named twice", 3))

    def test_wrong_weight(self):
        for weight in (-1, 1000, -999, 10 ** 20):
            self.assertEqual(self.fault([("a", weight)], []), ("wrong weight", 0), weight)
            self.assertEqual(self.fault([("a", 1), ("b", weight)], [("a", "b", 1)]), ("wrong weight", 1), weight)

    def test_right_weight(self):
        for weight in (0, 1, 998, 999):
            self.assertEqual(tree([("a", weight)], [])[0], (("a", weight),))

    def test_wrong_number_of_nodes_has_the_number_as_place(self):
        self.assertEqual(self.fault([], []), ("wrong number of nodes", 0))
        self.assertEqual(self.fault(many(13), chain(13)), ("wrong number of nodes", 13))
        self.assertEqual(self.fault(many(20), chain(20)), ("wrong number of nodes", 20))

    def test_right_number_of_nodes(self):
        for count in range(1, 13):
            made = tree(many(count), chain(count))
            self.assertEqual((len(made[0]), len(made[1])), (count, count - 1))

    def test_order_of_the_faults_of_one_node(self):
        self.assertEqual(self.fault([("A", -1)], []), ("wrong name", 0))
        self.assertEqual(self.fault([("a", 1), ("a", 1000)], []), ("named twice", 1))

    def test_a_wrong_name_is_found_before_it_is_there_twice(self):
        self.assertEqual(self.fault([("A", 1), ("A", 1)], []), ("wrong name", 0))

    def test_the_earlier_node_comes_first(self):
        self.assertEqual(self.fault([("a", -1), ("B", 1)], []), ("wrong weight", 0))
        self.assertEqual(self.fault([("a", 1), ("a", 1), ("B", 1)], []), ("named twice", 1))
        self.assertEqual(self.fault([("a", 1), ("b", 1000), ("a", 1)], []), ("wrong weight", 1))
        self.assertEqual(self.fault([("z", 1), ("b", 1000), ("a", 1000)], []), ("wrong weight", 1))

    def test_faults_of_nodes_come_before_their_wrong_number(self):
        self.assertEqual(self.fault(many(13) + [("N", 1)], []), ("wrong name", 13))
        self.assertEqual(self.fault(many(12) + [("n0", 1)], []), ("named twice", 12))
        self.assertEqual(self.fault(many(14) + [("m", 1000)], []), ("wrong weight", 14))

    def test_faults_of_nodes_come_before_those_of_edges(self):
        for edge in (("a", "q", 1), ("a", "b", 0), ("a", "a", 1)):
            self.assertEqual(self.fault([("a", 1), ("b", 1000)], [edge]), ("wrong weight", 1))
            self.assertEqual(self.fault([("a", 1), ("b-", 1)], [edge]), ("wrong name", 1))
            self.assertEqual(self.fault([("a", 1), ("b", 1), ("a", 1)], [edge]), ("named twice", 2))

    def test_the_wrong_number_of_nodes_comes_before_the_faults_of_edges(self):
        self.assertEqual(self.fault([], [("a", "b", 1)]), ("wrong number of nodes", 0))
        for edge in (("n0", "q", 1), ("n0", "n1", 0), ("n0", "n0", 1)):
            self.assertEqual(self.fault(many(13), [edge]), ("wrong number of nodes", 13))

    def test_the_wrong_number_of_nodes_comes_before_not_joined(self):
        self.assertEqual(self.fault(many(13), []), ("wrong number of nodes", 13))


class TestEdgeFaults(Faults):
    def test_unknown_node(self):
        for edge in (("a", "e", 1), ("e", "a", 1), ("e", "f", 1), ("e", "e", 1), ("", "a", 1), ("a", "A", 1)):
            self.assertEqual(self.fault(NODES, [edge]), ("unknown node", 0), edge)
            self.assertEqual(self.fault(NODES, EDGES + [edge]), ("unknown node", 3), edge)

    def test_wrong_length(self):
        for length in (0, 1000, -1, -999, 10 ** 20):
            self.assertEqual(self.fault(NODES, [("a", "b", length)]), ("wrong length", 0), length)
            self.assertEqual(self.fault(NODES, EDGES[:2] + [("b", "d", length)]), ("wrong length", 2), length)

    def test_right_length(self):
        for length in (1, 2, 998, 999):
            self.assertEqual(tree([("a", 0), ("b", 0)], [("b", "a", length)])[1], (("a", "b", length),))

    def test_joined_already_the_same_node_twice(self):
        self.assertEqual(self.fault(NODES, [("c", "c", 1)]), ("joined already", 0))
        self.assertEqual(self.fault([("a", 1)], [("a", "a", 1)]), ("joined already", 0))

    def test_joined_already_the_same_edge_twice(self):
        self.assertEqual(self.fault(NODES, [("a", "b", 3), ("a", "b", 3)]), ("joined already", 1))
        self.assertEqual(self.fault(NODES, EDGES + [("a", "b", 5)]), ("joined already", 3))

    def test_joined_already_an_edge_that_closes_a_ring(self):
        self.assertEqual(self.fault(NODES, EDGES + [("a", "c", 1)]), ("joined already", 3))
        ring = [("a", "b", 1), ("c", "d", 1), ("b", "c", 1), ("d", "a", 1)]
        self.assertEqual(self.fault(NODES, ring), ("joined already", 3))
        for gone in range(4):
            self.assertEqual(len(tree(NODES, ring[:gone] + ring[gone + 1:])[1]), 3)

    def test_a_ring_is_found_in_every_order_of_its_edges(self):
        ring = [("a", "b", 1), ("b", "c", 1), ("c", "d", 1), ("d", "e", 1), ("e", "a", 1), ("e", "f", 1)]
        nodes = [(name, 0) for name in "abcdef"]
        for edges in itertools.permutations(ring):
            last = max(k for k, edge in enumerate(edges) if edge != ("e", "f", 1))
            self.assertEqual(self.fault(nodes, list(edges)), ("joined already", last))

    def test_a_ring_of_twelve(self):
        edges = chain(12)
        for edge in (("n0", "n11", 1), ("n11", "n0", 1), ("n3", "n7", 1)):
            self.assertEqual(self.fault(many(12), edges + [edge]), ("joined already", 11))

    def test_not_joined_has_the_number_of_edges_as_place(self):
        self.assertEqual(self.fault([("a", 1), ("b", 1)], []), ("not joined", 0))
        self.assertEqual(self.fault(NODES, []), ("not joined", 0))
        for gone in range(3):
            self.assertEqual(self.fault(NODES, EDGES[:gone] + EDGES[gone + 1:]), ("not joined", 2))
        self.assertEqual(self.fault(many(12), chain(12)[:5] + chain(12)[6:]), ("not joined", 10))

    def test_order_of_the_faults_of_one_edge(self):
        self.assertEqual(self.fault(NODES, [("a", "e", 0)]), ("unknown node", 0))
        self.assertEqual(self.fault(NODES, [("e", "e", 1000)]), ("unknown node", 0))
        self.assertEqual(self.fault(NODES, [("a", "a", 0)]), ("wrong length", 0))
        self.assertEqual(self.fault(NODES, EDGES + [("a", "c", 1000)]), ("wrong length", 3))

    def test_the_earlier_edge_comes_first(self):
        self.assertEqual(self.fault(NODES, [("a", "a", 1), ("a", "b", 0)]), ("joined already", 0))
        self.assertEqual(self.fault(NODES, [("a", "b", 0), ("a", "e", 1)]), ("wrong length", 0))
        self.assertEqual(self.fault(NODES, [("a", "b", 1), ("a", "e", 1), ("a", "b", 1)]), ("unknown node", 1))
        self.assertEqual(self.fault(NODES, [("a", "b", 1), ("c", "d", 1000), ("a", "b", 1)]), ("wrong length", 1))
        self.assertEqual(self.fault(NODES, [("a", "b", 1), ("b", "a", 1), ("c", "e", 1)]), ("joined already", 1))

    def test_faults_of_edges_come_before_not_joined(self):
        self.assertEqual(self.fault(NODES, [("a", "b", 1), ("c", "e", 1)]), ("unknown node", 1))
        self.assertEqual(self.fault(NODES, [("a", "b", 1), ("c", "d", 0)]), ("wrong length", 1))
        self.assertEqual(self.fault(NODES, [("a", "b", 1), ("b", "a", 1)]), ("joined already", 1))

    def test_as_many_edges_as_needed_are_not_enough_if_they_close_a_ring(self):
        self.assertEqual(self.fault(NODES, [("a", "b", 1), ("b", "c", 1), ("c", "a", 1)]), ("joined already", 2))

    def test_the_error_is_caught_as_tree_error_and_as_value_error(self):
        for kind in (TreeError, ValueError):
            with self.assertRaises(kind):
                tree([], [])


if __name__ == "__main__":
    unittest.main()
