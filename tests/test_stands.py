"""Points [12], [13], [14] and [2]: stands and their witnesses, the least distance, and who serves whom."""

import itertools
import unittest

from tests.samples import LONG, ONE, T, TWO, slow_all, trees
from treeserved.groups import hit
from treeserved.stands import are_too_far, do_serve, least_distance, served, stands
from treeserved.trees import names_of, tree

# The path a - b - c - d - e with all lengths 2, and a star with the middle m, which is not the root.
ROW = tree([(name, 1) for name in "abcde"], [(one, two, 2) for one, two in ("ab", "bc", "cd", "de")])
STAR = tree([(name, 1) for name in "mabcd"], [("m", name, 3 + k) for k, name in enumerate("abcd")])
NO_NODES = ("q", "", "A", "a ", "ab", "only1", "\n")


def steps(some_tree):
    """The distances that nodes of a tree have, 0 included, ascending."""
    return sorted({far for row in slow_all(some_tree).values() for far in row.values()})


def near_steps(some_tree):
    """The distances of nodes, one less and one more than these, and beyond the greatest one."""
    found = {far + more for far in steps(some_tree) for more in (-1, 0, 1)}
    return sorted(far for far in found if far >= 0) + [10 ** 6]


def slow_serve(table, names, far):
    return all(any(table[node][name] <= far for name in names) for node in table)


def slow_too_far(table, names, far):
    return not any(table[one][node] <= far and table[two][node] <= far
                   for one, two in itertools.combinations(names, 2) for node in table)


def fewest(table, far):
    """The least number of nodes that serve a tree, by trying all sets of nodes."""
    for count in range(1, len(table) + 1):
        if any(slow_serve(table, chosen, far) for chosen in itertools.combinations(sorted(table), count)):
            return count


def slow_stands(some_tree, far):
    """The told hit of the family, one group for each node, and the names of the nodes of the kept groups."""
    table = slow_all(some_tree)
    names = sorted(table)
    nodes, indices = hit(some_tree, [tuple(o for o in names if table[name][o] <= far) for name in names])
    return nodes, [names[index] for index in indices]


def slow_least(some_tree, many):
    """The least distance, going through all integers that may be it."""
    far = [far for far in steps(some_tree) if len(stands(some_tree, far)[0]) <= many][0]
    witnesses = stands(some_tree, far - 1)[1][:many + 1] if far else None
    return far, stands(some_tree, far)[0], witnesses


def slow_served(some_tree, names):
    table = slow_all(some_tree)
    found = []
    for node in sorted(table):
        least = min(table[node][name] for name in names)
        found.append((node, sorted(name for name in names if table[node][name] == least)[0], least))
    return found


def small_trees(most):
    return [some_tree for some_tree in trees() if len(some_tree[0]) <= most]


class TestStands(unittest.TestCase):
    def test_the_distance_zero(self):
        for some_tree in (ONE, TWO, T, LONG, STAR):
            self.assertEqual(stands(some_tree, 0), (names_of(some_tree), names_of(some_tree)))

    def test_one_node(self):
        for far in (0, 1, 999, 10 ** 9):
            self.assertEqual(stands(ONE, far), (["only"], ["only"]))

    def test_two_nodes(self):
        self.assertEqual(stands(TWO, 998), (["x", "y"], ["x", "y"]))
        # Both groups have the top x, so the first one is kept.
        self.assertEqual(stands(TWO, 999), (["x"], ["x"]))
        self.assertEqual(stands(TWO, 1000), (["x"], ["x"]))

    def test_a_row(self):
        self.assertEqual(stands(ROW, 1), (list("abcde"), list("abcde")))
        # For 2 the groups are ab, abc, bcd, cde, de, with the tops a, a, b, c, d.
        self.assertEqual(stands(ROW, 2), (["a", "d"], ["a", "e"]))
        self.assertEqual(stands(ROW, 3), (["a", "d"], ["a", "e"]))
        # For 4 the groups are abc, abcd, abcde, bcde, cde, with the tops a, a, a, b, c.
        self.assertEqual(stands(ROW, 4), (["c"], ["e"]))
        self.assertEqual(stands(ROW, 7), (["b"], ["e"]))
        self.assertEqual(stands(ROW, 8), (["a"], ["a"]))

    def test_a_star(self):
        self.assertEqual(stands(STAR, 2), (list("abcdm"), list("abcdm")))
        self.assertEqual(stands(STAR, 3), (list("abcd"), list("abcd")))
        self.assertEqual(stands(STAR, 4), (["c", "d", "m"], ["b", "c", "d"]))
        self.assertEqual(stands(STAR, 5), (["d", "m"], ["b", "d"]))
        self.assertEqual(stands(STAR, 6), (["m"], ["b"]))
        self.assertEqual(stands(STAR, 7), (["m"], ["c"]))
        self.assertEqual(stands(STAR, 8), (["m"], ["d"]))
        self.assertEqual(stands(STAR, 9), (["a"], ["a"]))

    def test_kinds(self):
        found = stands(T, 3)
        self.assertIs(type(found), tuple)
        self.assertEqual([type(part) for part in found], [list, list])

    def test_a_distance_below_zero_raises_no_error(self):
        for some_tree in (ONE, TWO, T):
            stands(some_tree, -1)

    def test_many_trees(self):
        for some_tree in trees():
            table = slow_all(some_tree)
            for far in near_steps(some_tree)[::1 + len(table) // 5]:
                nodes, witnesses = stands(some_tree, far)
                self.assertEqual((nodes, witnesses), slow_stands(some_tree, far))
                self.assertTrue(slow_serve(table, nodes, far))
                self.assertTrue(slow_too_far(table, witnesses, far))
                self.assertEqual(len(nodes), len(witnesses))
                self.assertEqual((nodes, witnesses), (sorted(set(nodes)), sorted(set(witnesses))))
                self.assertIs(do_serve(some_tree, nodes, far), True)
                self.assertIs(are_too_far(some_tree, witnesses, far), True)

    def test_no_fewer_nodes_serve(self):
        for some_tree in small_trees(7):
            table = slow_all(some_tree)
            for far in near_steps(some_tree):
                self.assertEqual(len(stands(some_tree, far)[0]), fewest(table, far))


class TestDoServe(unittest.TestCase):
    def test_right_and_wrong_lists(self):
        for names in (["c"], ["a", "e"], ["b", "d"], ["d", "b"], ["a", "c"], list("abcde")):
            self.assertIs(do_serve(ROW, names, 4), True, names)
        for names in (["a"], ["b"], ["d"], ["a", "b"], ["e", "d"]):
            self.assertIs(do_serve(ROW, names, 4), False, names)

    def test_a_node_left_out_or_put_in(self):
        self.assertIs(do_serve(STAR, ["c", "d", "m"], 4), True)
        for names in (["c", "d"], ["c", "m"], ["d", "m"], ["a", "c", "d"]):
            self.assertIs(do_serve(STAR, names, 4), False, names)
        self.assertIs(do_serve(STAR, ["a", "c", "d", "m"], 4), True)

    def test_a_node_that_is_there_twice(self):
        self.assertIs(do_serve(ROW, ["c", "c"], 4), True)
        self.assertIs(do_serve(ROW, ["b", "b"], 4), False)
        self.assertIs(do_serve(ONE, ["only", "only"], 0), True)

    def test_strings_that_are_no_nodes(self):
        for name in NO_NODES:
            self.assertIs(do_serve(ROW, [name], 100), False)
            self.assertIs(do_serve(ROW, ["c", name], 100), False)
            self.assertIs(do_serve(ROW, [name] + list("abcde"), 100), False)

    def test_the_empty_list(self):
        for some_tree in (ONE, TWO, ROW):
            self.assertIs(do_serve(some_tree, [], 10 ** 6), False)

    def test_just_the_distance_and_one_less(self):
        self.assertIs(do_serve(TWO, ["x"], 998), False)
        self.assertIs(do_serve(TWO, ["x"], 999), True)
        self.assertIs(do_serve(ONE, ["only"], 0), True)

    def test_below_zero(self):
        self.assertIs(do_serve(ONE, ["only"], -1), False)

    def test_all_lists_of_small_trees(self):
        for some_tree in small_trees(4):
            table = slow_all(some_tree)
            for far in near_steps(some_tree):
                for count in range(4):
                    for names in itertools.product(sorted(table), repeat=count):
                        self.assertIs(do_serve(some_tree, list(names), far), slow_serve(table, names, far))


class TestAreTooFar(unittest.TestCase):
    def test_right_and_wrong_lists(self):
        for names in (["a", "d"], ["a", "e"], ["b", "e"], ["e", "a"]):
            self.assertIs(are_too_far(ROW, names, 2), True, names)
        for names in (["a", "b"], ["a", "c"], ["c", "a"], ["b", "d"], ["a", "c", "e"], ["a", "e", "d"]):
            self.assertIs(are_too_far(ROW, names, 2), False, names)

    def test_a_node_in_the_middle_counts_not_the_middle_of_the_path(self):
        # The places in the middle of the edge are near to both, but no node is.
        self.assertIs(are_too_far(TWO, ["x", "y"], 998), True)
        self.assertIs(are_too_far(TWO, ["x", "y"], 999), False)

    def test_a_node_left_out_or_put_in(self):
        self.assertIs(are_too_far(STAR, ["b", "c", "d"], 4), True)
        for names in (["b", "c"], ["c", "d"], ["d", "b"], ["c"]):
            self.assertIs(are_too_far(STAR, names, 4), True, names)
        for names in (["a", "b", "c", "d"], ["b", "c", "d", "m"]):
            self.assertIs(are_too_far(STAR, names, 4), False, names)

    def test_a_node_that_is_there_twice(self):
        for names in (["a", "a"], ["a", "e", "a"], ["e", "a", "e"]):
            self.assertIs(are_too_far(ROW, names, 2), False, names)
        self.assertIs(are_too_far(ONE, ["only", "only"], 0), False)

    def test_strings_that_are_no_nodes(self):
        for name in NO_NODES:
            self.assertIs(are_too_far(ROW, [name], 0), False)
            self.assertIs(are_too_far(ROW, ["a", name], 0), False)
            self.assertIs(are_too_far(ROW, [name, name], 0), False)

    def test_one_node_and_none(self):
        for far in (0, 4, 10 ** 6):
            self.assertIs(are_too_far(ROW, [], far), True)
            self.assertIs(are_too_far(ROW, ["c"], far), True)

    def test_all_lists_of_small_trees(self):
        for some_tree in small_trees(4):
            table = slow_all(some_tree)
            for far in near_steps(some_tree):
                for count in range(4):
                    for names in itertools.product(sorted(table), repeat=count):
                        wanted = len(set(names)) == count and slow_too_far(table, names, far)
                        self.assertIs(are_too_far(some_tree, list(names), far), wanted)


class TestLeastDistance(unittest.TestCase):
    def test_one_stand(self):
        self.assertEqual(least_distance(ROW, 1), (4, ["c"], ["a", "e"]))
        self.assertEqual(least_distance(STAR, 1), (6, ["m"], ["b", "d"]))
        self.assertEqual(least_distance(TWO, 1), (999, ["x"], ["x", "y"]))
        self.assertEqual(least_distance(ONE, 1), (0, ["only"], None))

    def test_in_between(self):
        self.assertEqual(least_distance(ROW, 2), (2, ["a", "d"], ["a", "b", "c"]))
        self.assertEqual(least_distance(ROW, 3), (2, ["a", "d"], ["a", "b", "c", "d"]))
        self.assertEqual(least_distance(STAR, 2), (5, ["d", "m"], ["b", "c", "d"]))
        self.assertEqual(least_distance(STAR, 3), (4, ["c", "d", "m"], ["a", "b", "c", "d"]))
        self.assertEqual(least_distance(STAR, 4), (3, ["a", "b", "c", "d"], ["a", "b", "c", "d", "m"]))

    def test_as_many_as_there_are_nodes_and_more(self):
        for some_tree in (ONE, TWO, T, LONG, STAR, ROW):
            count = len(some_tree[0])
            for many in (count, count + 1, 12, 10 ** 6):
                if many >= count:
                    self.assertEqual(least_distance(some_tree, many), (0, names_of(some_tree), None))

    def test_kinds(self):
        found = least_distance(T, 1)
        self.assertEqual([type(part) for part in found], [int, list, list])
        self.assertIs(type(found), tuple)

    def test_no_stand_at_all_raises_no_error(self):
        for some_tree in (ONE, TWO, T):
            least_distance(some_tree, 0)

    def test_many_trees(self):
        for some_tree in trees():
            table = slow_all(some_tree)
            for many in range(1, len(table) + 2):
                found = least_distance(some_tree, many)
                self.assertEqual(found, slow_least(some_tree, many))
                far, nodes, witnesses = found
                self.assertTrue(slow_serve(table, nodes, far))
                self.assertLessEqual(len(nodes), many)
                if witnesses is None:
                    self.assertEqual(far, 0)
                else:
                    self.assertEqual(len(witnesses), many + 1)
                    self.assertTrue(slow_too_far(table, witnesses, far - 1))

    def test_one_stand_less_does_not_do(self):
        for some_tree in small_trees(7):
            table = slow_all(some_tree)
            for many in range(1, len(table) + 1):
                far, _, _ = least_distance(some_tree, many)
                self.assertLessEqual(fewest(table, far), many)
                if far:
                    self.assertGreater(fewest(table, far - 1), many)


class TestServed(unittest.TestCase):
    def test_one_node(self):
        self.assertEqual(served(ROW, ["b"]), [("a", "b", 2), ("b", "b", 0), ("c", "b", 2), ("d", "b", 4), ("e", "b", 6)])
        self.assertEqual(served(ONE, ["only"]), [("only", "only", 0)])

    def test_several_in_any_order(self):
        wanted = [("a", "a", 0), ("b", "a", 2), ("c", "d", 2), ("d", "d", 0), ("e", "d", 2)]
        for names in (["a", "d"], ["d", "a"]):
            self.assertEqual(served(ROW, names), wanted)

    def test_a_node_twice(self):
        self.assertEqual(served(ROW, ["b", "b"]), served(ROW, ["b"]))
        self.assertEqual(served(ROW, ["d", "a", "d"]), served(ROW, ["a", "d"]))

    def test_two_that_are_equally_near(self):
        for names in (["a", "c"], ["c", "a"], ["c", "a", "c"]):
            self.assertEqual(served(ROW, names)[1], ("b", "a", 2))
        some_tree = tree([(name, 0) for name in "xyz"], [("x", "z", 7), ("z", "y", 7)])
        self.assertEqual(served(some_tree, ["y", "x"]), [("x", "x", 0), ("y", "y", 0), ("z", "x", 7)])

    def test_many_trees(self):
        for some_tree in trees():
            names = names_of(some_tree)
            for count in range(1, len(names) + 1):
                for start in range(0, len(names), 3):
                    chosen = [names[(start + 5 * k) % len(names)] for k in range(count)]
                    self.assertEqual(served(some_tree, chosen), slow_served(some_tree, chosen))

    def test_order_of_the_nodes_is_that_of_the_tree(self):
        self.assertEqual([row[0] for row in served(LONG, ["d"])], sorted("abcde"))


class TestArguments(unittest.TestCase):
    def test_lists_that_are_passed_stay_as_they_are(self):
        for names in (["d", "a"], ["c"], ["a", "a"], ["q", "a"], []):
            kept = list(names)
            do_serve(ROW, names, 4)
            are_too_far(ROW, names, 4)
            if names and "q" not in names:
                served(ROW, names)
            self.assertEqual(names, kept)

    def test_changing_an_answer_does_not_change_the_next_one(self):
        for _ in range(2):
            nodes, witnesses = stands(STAR, 5)
            self.assertEqual((nodes, witnesses), (["d", "m"], ["b", "d"]))
            nodes.append("spoiled")
            witnesses.clear()
            _, nodes, witnesses = least_distance(STAR, 2)
            self.assertEqual((nodes, witnesses), (["d", "m"], ["b", "c", "d"]))
            nodes.clear()
            witnesses.append("spoiled")
            rows = served(TWO, ["x"])
            self.assertEqual(rows, [("x", "x", 0), ("y", "x", 999)])
            rows.clear()

    def test_lists_do_not_share(self):
        nodes, witnesses = stands(STAR, 0)
        nodes.clear()
        self.assertEqual(witnesses, names_of(STAR))


if __name__ == "__main__":
    unittest.main()
