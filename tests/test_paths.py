"""Points [6] and [2]: what lies between the nodes of a tree."""

import itertools
import unittest

from tests.samples import LONG, NAMES, ONE, T, TWO, links, made, scattered, slow_distance, slow_path, trees
from treeserved.trees import distance, is_group, meeting, names_of, neighbors, path, sides, tree, weight_of


class TestExample(unittest.TestCase):
    def test_example_of_the_interface(self):
        self.assertEqual(
            (T[1], path(T, "a", "d"), distance(T, "c", "d"), meeting(T, "a", "c", "d")),
            ((("a", "b", 3), ("b", "c", 4), ("b", "d", 2)), ["a", "b", "d"], 6, "b"))


class TestNodes(unittest.TestCase):
    def test_names_of(self):
        self.assertEqual(names_of(T), ["a", "b", "c", "d"])
        self.assertEqual(names_of(ONE), ["only"])
        self.assertEqual(names_of(TWO), ["x", "y"])
        self.assertEqual(names_of(made([k for k in range(11)])), NAMES)

    def test_weight_of(self):
        self.assertEqual([weight_of(T, name) for name in "abcd"], [1, 0, 2, 1])
        self.assertEqual(weight_of(ONE, "only"), 9)
        self.assertEqual((weight_of(TWO, "x"), weight_of(TWO, "y")), (2, 1))

    def test_neighbors(self):
        self.assertEqual(neighbors(T, "b"), [("a", 3), ("c", 4), ("d", 2)])
        self.assertEqual(neighbors(T, "a"), [("b", 3)])
        self.assertEqual(neighbors(T, "d"), [("b", 2)])
        self.assertEqual(neighbors(ONE, "only"), [])
        self.assertEqual(neighbors(LONG, "e"), [("a", 2), ("b", 4)])

    def test_neighbors_of_many_trees(self):
        for some_tree in trees():
            for name, found in links(some_tree).items():
                self.assertEqual(neighbors(some_tree, name), sorted(found.items()))


class TestPaths(unittest.TestCase):
    def test_path(self):
        self.assertEqual(path(T, "d", "a"), ["d", "b", "a"])
        self.assertEqual(path(T, "c", "b"), ["c", "b"])
        self.assertEqual(path(LONG, "c", "d"), ["c", "a", "e", "b", "d"])
        self.assertEqual(path(LONG, "d", "a"), ["d", "b", "e", "a"])

    def test_path_from_a_node_to_itself(self):
        self.assertEqual(path(ONE, "only", "only"), ["only"])
        for some_tree in trees():
            for name in names_of(some_tree):
                self.assertEqual(path(some_tree, name, name), [name])
                self.assertEqual(distance(some_tree, name, name), 0)

    def test_distance(self):
        self.assertEqual(distance(TWO, "x", "y"), 999)
        self.assertEqual(distance(LONG, "c", "d"), 15)
        self.assertEqual(distance(LONG, "b", "a"), 6)

    def test_distances_beyond_the_greatest_length(self):
        some_tree = tree([(name, 0) for name in NAMES], [(a, b, 999) for a, b in zip(NAMES, NAMES[1:])])
        self.assertEqual(distance(some_tree, "z", "a"), 11 * 999)
        self.assertEqual(path(some_tree, "z", "a"), NAMES[::-1])

    def test_longer_edges_than_tree_takes(self):
        # [19]: a grown tree may have such edges.
        some_tree = ((("a", 0), ("b", 0), ("h1", 0), ("q", 0)), (("a", "h1", 20000), ("b", "h1", 1), ("h1", "q", 5000)))
        self.assertEqual(path(some_tree, "a", "q"), ["a", "h1", "q"])
        self.assertEqual(distance(some_tree, "q", "a"), 25000)

    def test_all_pairs_of_many_trees(self):
        for some_tree in trees():
            for first, second in itertools.product(names_of(some_tree), repeat=2):
                self.assertEqual(path(some_tree, first, second), slow_path(some_tree, first, second))
                self.assertEqual(distance(some_tree, first, second), slow_distance(some_tree, first, second))


class TestMeeting(unittest.TestCase):
    def test_all_three_different(self):
        self.assertEqual(meeting(T, "d", "a", "c"), "b")
        self.assertEqual(meeting(T, "a", "b", "c"), "b")
        for order in itertools.permutations("cbd"):
            self.assertEqual(meeting(LONG, *order), "b")
        for order in itertools.permutations("cae"):
            self.assertEqual(meeting(LONG, *order), "a")

    def test_two_the_same(self):
        for some_tree in (T, LONG, TWO):
            for one, other in itertools.permutations(names_of(some_tree), 2):
                self.assertEqual(meeting(some_tree, one, one, other), one)
                self.assertEqual(meeting(some_tree, one, other, one), one)
                self.assertEqual(meeting(some_tree, other, one, one), one)

    def test_all_the_same(self):
        for some_tree in (T, LONG, TWO, ONE):
            for name in names_of(some_tree):
                self.assertEqual(meeting(some_tree, name, name, name), name)

    def test_all_triples_of_many_trees(self):
        for some_tree in trees():
            names = names_of(some_tree)
            ways = {pair: slow_path(some_tree, *pair) for pair in itertools.product(names, repeat=2)}
            for one, two, three in itertools.product(names, repeat=3):
                found = [name for name in names
                         if name in ways[one, two] and name in ways[two, three] and name in ways[three, one]]
                self.assertEqual([meeting(some_tree, one, two, three)], found)


class TestSides(unittest.TestCase):
    def test_both_orders_of_the_names(self):
        self.assertEqual(sides(T, "a", "b"), (["a"], ["b", "c", "d"]))
        self.assertEqual(sides(T, "b", "a"), (["b", "c", "d"], ["a"]))
        self.assertEqual(sides(LONG, "a", "e"), (["a", "c"], ["b", "d", "e"]))
        self.assertEqual(sides(LONG, "e", "a"), (["b", "d", "e"], ["a", "c"]))
        self.assertEqual(sides(TWO, "x", "y"), (["x"], ["y"]))
        self.assertEqual(sides(TWO, "y", "x"), (["y"], ["x"]))

    def test_kinds(self):
        found = sides(T, "a", "b")
        self.assertIs(type(found), tuple)
        self.assertEqual([type(part) for part in found], [list, list])

    def test_all_edges_of_many_trees(self):
        for some_tree in trees():
            names = names_of(some_tree)
            for first, second, _ in some_tree[1]:
                here = [name for name in names if second not in slow_path(some_tree, first, name)]
                there = [name for name in names if first not in slow_path(some_tree, second, name)]
                self.assertEqual(sides(some_tree, first, second), (here, there))
                self.assertEqual(sides(some_tree, second, first), (there, here))


class TestGroups(unittest.TestCase):
    def test_groups(self):
        for names in (("a",), ("b",), ("a", "b"), ("b", "c", "d"), ("a", "b", "d"), ("a", "b", "c", "d")):
            self.assertIs(is_group(T, names), True, names)
        self.assertIs(is_group(ONE, ("only",)), True)
        self.assertIs(is_group(LONG, ("a", "b", "e")), True)

    def test_empty(self):
        self.assertIs(is_group(T, ()), False)
        self.assertIs(is_group(ONE, ()), False)

    def test_a_node_twice(self):
        for names in (("a", "a"), ("a", "a", "b"), ("a", "b", "b"), ("a", "b", "a")):
            self.assertIs(is_group(T, names), False, names)
        self.assertIs(is_group(ONE, ("only", "only")), False)

    def test_not_ascending(self):
        for names in (("b", "a"), ("b", "d", "c"), ("a", "c", "b"), ("c", "b", "a")):
            self.assertIs(is_group(T, names), False, names)

    def test_an_unknown_string(self):
        for names in (("e",), ("",), ("A", "a"), ("a", "b", "e"), ("", "a", "b"), ("a", "aa", "b"), ("a b",),
                      ("b", "c", "c-")):
            self.assertIs(is_group(T, names), False, names)
        self.assertIs(is_group(ONE, ("a",)), False)

    def test_a_node_left_out_between(self):
        for names in (("a", "c"), ("a", "c", "d"), ("a", "d")):
            self.assertIs(is_group(T, names), False, names)
        for names in (("a", "b"), ("c", "d"), ("a", "b", "c", "d"), ("b", "c", "d", "e"), ("c", "e")):
            self.assertIs(is_group(LONG, names), False, names)

    def test_two_parts_that_hang_together_each(self):
        self.assertIs(is_group(LONG, ("a", "b", "c", "d")), False)

    def all_tuples(self, some_tree):
        names = names_of(some_tree)
        ways = {pair: slow_path(some_tree, *pair) for pair in itertools.combinations(names, 2)}
        for count in range(1, len(names) + 1):
            for chosen in itertools.combinations(names, count):
                wanted = all(set(ways[pair]) <= set(chosen) for pair in itertools.combinations(chosen, 2))
                self.assertIs(is_group(some_tree, chosen), wanted, chosen)

    def test_all_ascending_tuples_of_smaller_trees(self):
        for some_tree in trees():
            if len(some_tree[0]) <= 7:
                self.all_tuples(some_tree)

    def test_all_ascending_tuples_of_trees_of_twelve_nodes(self):
        for parents in ([k for k in range(11)], [k // 2 for k in range(11)]):
            self.all_tuples(scattered(parents))

    def test_all_tuples_of_a_small_tree(self):
        for count in range(5):
            for names in itertools.product("abcde", repeat=count):
                wanted = names != () and list(names) == sorted(set(names)) and "e" not in names and (
                    len(names) == 1 or "b" in names)
                self.assertIs(is_group(T, names), wanted, names)


class TestNewLists(unittest.TestCase):
    def answers(self):
        return [names_of(T), neighbors(T, "b"), path(T, "a", "d"), path(T, "a", "a"), sides(T, "a", "b")[0],
                sides(T, "a", "b")[1], names_of(ONE), neighbors(ONE, "only")]

    def test_changing_an_answer_does_not_change_the_next_one(self):
        kept = [list(found) for found in self.answers()]
        for found in self.answers():
            found.append("spoiled")
            found.reverse()
        for found in self.answers():
            found.clear()
        self.assertEqual(self.answers(), kept)
        self.assertTrue(all(type(found) is list for found in self.answers()))

    def test_the_tree_stays_as_it_is(self):
        kept = ((("a", 1), ("b", 0), ("c", 2), ("d", 1)), (("a", "b", 3), ("b", "c", 4), ("b", "d", 2)))
        for found in self.answers():
            found.clear()
        meeting(T, "a", "c", "d")
        is_group(T, ("a", "b"))
        self.assertEqual(T, kept)


if __name__ == "__main__":
    unittest.main()
