"""Points [10], [11] and [2]: the told hit, its papers, and what all groups of a family have in common."""

import itertools
import unittest

from tests.samples import LONG, ONE, T, TWO, families_of, groups_of, made, scattered, slow_path, trees
from treeserved.groups import are_apart, are_hit, common, hit, top_of
from treeserved.trees import is_group, names_of, tree

# The root is a; below it hang b with d and e, and c with f and g.
BUSH = tree([(name, 1) for name in "abcdefg"],
            [("a", "b", 1), ("a", "c", 9), ("b", "d", 9), ("b", "e", 1), ("c", "f", 1), ("c", "g", 1)])


def small_trees():
    """Trees of up to seven nodes, for which all can be tried out."""
    return [some_tree for some_tree in trees() if len(some_tree[0]) <= 7]


def slow_top(some_tree, group):
    """The node of a group that all its others can be reached by only through it."""
    root = some_tree[0][0][0]
    return [name for name in group if set(slow_path(some_tree, root, name)) & set(group) == {name}][0]


def slow_hit(some_tree, groups):
    """The told hit as the document tells it, with the order made by sorting by the lesser keys first."""
    root = some_tree[0][0][0]
    tops = [slow_top(some_tree, group) for group in groups]
    order = sorted(range(len(groups)), key=lambda index: tops[index])
    order.sort(key=lambda index: len(slow_path(some_tree, root, tops[index])), reverse=True)
    taken, kept = set(), []
    for index in order:
        if taken.isdisjoint(groups[index]):
            taken.add(tops[index])
            kept.append(index)
    return sorted(taken), sorted(kept)


def fewest_hitting(some_tree, groups):
    """The least number of nodes that hit a family, by trying all sets of nodes."""
    names = names_of(some_tree)
    for count in range(len(names) + 1):
        for chosen in itertools.combinations(names, count):
            if all(set(chosen) & set(group) for group in groups):
                return count


def most_apart(groups):
    """The greatest number of groups that are apart, by trying all sets of groups."""
    for count in range(len(groups), -1, -1):
        for chosen in itertools.combinations(groups, count):
            if all(not set(one) & set(two) for one, two in itertools.combinations(chosen, 2)):
                return count


def slow_common(some_tree, groups):
    shared = set(names_of(some_tree)).intersection(*groups)
    if shared:
        return "node", min(shared)
    apart = [(i, j) for j in range(len(groups)) for i in range(j) if not set(groups[i]) & set(groups[j])]
    return ("apart",) + min(apart)


class TestSamples(unittest.TestCase):
    def test_groups_of_the_samples_are_groups(self):
        for some_tree in small_trees():
            names = names_of(some_tree)
            wanted = [chosen for count in range(1, len(names) + 1) for chosen in itertools.combinations(names, count)
                      if is_group(some_tree, chosen)]
            self.assertEqual(groups_of(some_tree), wanted)


class TestExample(unittest.TestCase):
    def test_example_of_the_interface(self):
        self.assertEqual(
            (hit(T, [("a", "b"), ("b", "c"), ("c",), ("d",)]), common(T, [("a", "b"), ("b", "c"), ("d",)])),
            ((["a", "c", "d"], [0, 2, 3]), ("apart", 0, 2)))


class TestTop(unittest.TestCase):
    def test_groups_with_the_first_node(self):
        for group in (("a",), ("a", "b"), ("a", "c", "g"), tuple("abcdefg")):
            self.assertEqual(top_of(BUSH, group), "a")
        self.assertEqual(top_of(ONE, ("only",)), "only")
        self.assertEqual(top_of(TWO, ("x", "y")), "x")

    def test_groups_without_it(self):
        for group, top in ((("b",), "b"), (("b", "d"), "b"), (("b", "d", "e"), "b"), (("c", "f", "g"), "c"),
                           (("f",), "f")):
            self.assertEqual(top_of(BUSH, group), top)
        self.assertEqual(top_of(TWO, ("y",)), "y")

    def test_the_top_need_not_be_the_least_node(self):
        # LONG is c - a - e - b - d with the root a.
        for group, top in ((("b", "d"), "b"), (("b", "e"), "e"), (("b", "d", "e"), "e"), (("a", "c"), "a"),
                           (("c",), "c"), (("d",), "d")):
            self.assertEqual(top_of(LONG, group), top)

    def test_all_groups_of_two_great_trees(self):
        for some_tree in (made([k // 2 for k in range(11)]), scattered([0] + [k // 3 for k in range(1, 11)])):
            for group in groups_of(some_tree):
                self.assertEqual(top_of(some_tree, group), slow_top(some_tree, group))

    def test_all_groups_of_small_trees(self):
        for some_tree in small_trees():
            for group in groups_of(some_tree):
                self.assertEqual(top_of(some_tree, group), slow_top(some_tree, group))


class TestHit(unittest.TestCase):
    def test_an_empty_family(self):
        for some_tree in (ONE, TWO, T, BUSH):
            self.assertEqual(hit(some_tree, []), ([], []))

    def test_one_group(self):
        for some_tree in (ONE, TWO, T, LONG, BUSH):
            for group in groups_of(some_tree):
                self.assertEqual(hit(some_tree, [group]), ([slow_top(some_tree, group)], [0]))

    def test_equal_groups(self):
        self.assertEqual(hit(BUSH, [("b", "d")] * 12), (["b"], [0]))
        self.assertEqual(hit(BUSH, [("a", "c"), ("e",), ("a", "c"), ("e",), ("e",)]), (["a", "e"], [0, 1]))
        self.assertEqual(hit(ONE, [("only",), ("only",)]), (["only"], [0]))

    def test_one_top_the_first_in_the_order_of_the_family(self):
        self.assertEqual(hit(BUSH, [("b", "e"), ("b",), ("b", "d")]), (["b"], [0]))
        self.assertEqual(hit(BUSH, [("a", "b"), ("b", "d", "e"), ("b", "d"), ("b",)]), (["b"], [1]))
        self.assertEqual(hit(BUSH, [("g",), ("a", "c"), ("a",), ("a", "b")]), (["a", "g"], [0, 1]))

    def test_tops_with_the_same_number_of_edges_to_the_root(self):
        self.assertEqual(hit(BUSH, [("g",), ("f",), ("e",), ("d",)]), (["d", "e", "f", "g"], [0, 1, 2, 3]))
        self.assertEqual(hit(BUSH, [("c", "g"), ("b", "e"), ("c", "f"), ("b", "d")]), (["b", "c"], [0, 1]))
        self.assertEqual(hit(BUSH, [("a", "b", "c"), ("c", "f"), ("b",), ("c",)]), (["b", "c"], [1, 2]))

    def test_the_tops_far_from_the_root_come_first(self):
        self.assertEqual(hit(BUSH, [("a", "b", "d"), ("d",), ("b", "d", "e"), ("a",)]), (["a", "d"], [1, 3]))
        self.assertEqual(hit(LONG, [("a", "b", "e"), ("b", "e"), ("b",), ("c",), ("a", "c")]), (["b", "c"], [2, 3]))
        self.assertEqual(hit(LONG, [("a", "c"), ("a", "e"), ("b", "e"), ("b", "d")]), (["a", "b"], [0, 3]))

    def test_nodes_and_indices_are_ascending(self):
        self.assertEqual(hit(BUSH, [("a",), ("c",), ("g",), ("b",), ("d",)]),
                         (["a", "b", "c", "d", "g"], [0, 1, 2, 3, 4]))

    def test_kinds(self):
        found = hit(BUSH, [("a",), ("c", "f")])
        self.assertIs(type(found), tuple)
        self.assertEqual([type(part) for part in found], [list, list])

    def test_twelve_groups_and_more(self):
        leaves = [(name,) for name in names_of(made([0] * 11))]
        self.assertEqual(hit(made([0] * 11), leaves), (names_of(made([0] * 11)), list(range(12))))
        self.assertEqual(hit(BUSH, [("d",)] * 20), (["d"], [0]))

    def check(self, some_tree, groups):
        nodes, indices = hit(some_tree, groups)
        self.assertEqual((nodes, indices), slow_hit(some_tree, groups))
        self.assertTrue(all(set(nodes) & set(group) for group in groups))
        for i, j in itertools.combinations(indices, 2):
            self.assertFalse(set(groups[i]) & set(groups[j]))
        self.assertEqual(len(nodes), len(indices))
        self.assertIs(are_hit(groups, nodes), True)
        self.assertIs(are_apart(groups, indices), True)

    def test_families_of_many_trees(self):
        for some_tree in trees():
            for groups in families_of(some_tree, 12)[::1 + len(some_tree[0]) // 3]:
                self.check(some_tree, groups)

    def test_all_families_of_three_groups_of_small_trees(self):
        for some_tree in (TWO, T, LONG):
            for groups in itertools.product(groups_of(some_tree), repeat=3):
                self.check(some_tree, list(groups))

    def test_neither_fewer_nodes_nor_more_groups(self):
        for some_tree in small_trees():
            for groups in families_of(some_tree, 7):
                count = len(hit(some_tree, groups)[0])
                self.assertEqual((fewest_hitting(some_tree, groups), most_apart(groups)), (count, count))


class TestAreHit(unittest.TestCase):
    FAMILY = [("a", "b"), ("b", "c"), ("d",)]

    def test_names_that_hit(self):
        for names in (["b", "d"], ["d", "b"], ["a", "c", "d"], ["a", "b", "c", "d"], ["b", "b", "d"]):
            self.assertIs(are_hit(self.FAMILY, names), True, names)

    def test_names_that_do_not(self):
        for names in ([], ["b"], ["d"], ["a", "d"], ["a", "c"], ["c", "d"], ["a", "b", "c"]):
            self.assertIs(are_hit(self.FAMILY, names), False, names)

    def test_names_that_are_no_nodes(self):
        for names in (["q"], ["", "A"], ["ab", "bc", "d "], ["b", "q"]):
            self.assertIs(are_hit(self.FAMILY, names), False, names)
        for names in (["b", "d", "q"], ["", "A", "b", "d"]):
            self.assertIs(are_hit(self.FAMILY, names), True, names)

    def test_an_empty_family(self):
        for names in ([], ["a"], ["q", ""]):
            self.assertIs(are_hit([], names), True)

    def test_all_names_and_families_of_small_trees(self):
        for some_tree in (TWO, T, LONG):
            names = names_of(some_tree)
            for groups in families_of(some_tree, 5):
                for chosen in itertools.chain(*[itertools.combinations(names, k) for k in range(len(names) + 1)]):
                    wanted = all(set(group) & set(chosen) for group in groups)
                    self.assertIs(are_hit(groups, list(chosen)), wanted)


class TestAreApart(unittest.TestCase):
    FAMILY = [("a",), ("a", "b"), ("c",), ("d",), ("d",)]

    def test_groups_that_are_apart(self):
        for indices in ([0, 2, 3], [3, 0, 2], [1, 2, 4], [4, 1], [2, 3], [0, 4]):
            self.assertIs(are_apart(self.FAMILY, indices), True, indices)

    def test_groups_that_are_not(self):
        for indices in ([0, 1], [1, 0], [3, 4], [0, 1, 2], [2, 1, 0], [0, 2, 3, 4], [1, 2, 3, 4]):
            self.assertIs(are_apart(self.FAMILY, indices), False, indices)

    def test_one_group(self):
        for index in range(5):
            self.assertIs(are_apart(self.FAMILY, [index]), True)

    def test_none(self):
        self.assertIs(are_apart(self.FAMILY, []), True)
        self.assertIs(are_apart([], []), True)

    def test_indices_that_are_there_twice(self):
        for indices in ([0, 0], [2, 3, 2], [3, 3, 3], [0, 2, 3, 0]):
            self.assertIs(are_apart(self.FAMILY, indices), False, indices)

    def test_negative_indices(self):
        for indices in ([-1], [0, -1], [-3, 0], [-5], [-6], [-1, -2], [-1, 4]):
            self.assertIs(are_apart(self.FAMILY, indices), False, indices)

    def test_indices_that_are_too_great(self):
        for indices in ([5], [0, 5], [6, 0], [10 ** 20], [0, 2, 3, 99]):
            self.assertIs(are_apart(self.FAMILY, indices), False, indices)
        self.assertIs(are_apart([], [0]), False)
        self.assertIs(are_apart([], [-1]), False)

    def test_all_indices_and_families_of_small_trees(self):
        for some_tree in (TWO, T, LONG):
            for groups in families_of(some_tree, 4):
                for count in range(4):
                    for indices in itertools.product(range(-1, len(groups) + 1), repeat=count):
                        wanted = all(0 <= index < len(groups) for index in indices) and all(
                            i != j and not set(groups[i]) & set(groups[j])
                            for i, j in itertools.combinations(indices, 2))
                        self.assertIs(are_apart(groups, list(indices)), wanted, (groups, indices))


class TestCommon(unittest.TestCase):
    def test_the_only_common_node(self):
        self.assertEqual(common(T, [("a", "b"), ("b", "c"), ("b", "d")]), ("node", "b"))
        self.assertEqual(common(LONG, [("b", "d"), ("b", "e"), ("b",)]), ("node", "b"))

    def test_the_first_of_several_common_nodes(self):
        self.assertEqual(common(T, [("a", "b", "d"), ("b", "d"), ("b", "c", "d")]), ("node", "b"))
        self.assertEqual(common(LONG, [("a", "b", "d", "e"), ("a", "b", "c", "e"), ("b", "e")]), ("node", "b"))
        self.assertEqual(common(BUSH, [("c", "f", "g"), ("a", "c", "g")]), ("node", "c"))

    def test_the_first_pair_that_is_apart(self):
        self.assertEqual(common(T, [("a", "b"), ("b", "c"), ("d",)]), ("apart", 0, 2))
        self.assertEqual(common(T, [("b",), ("a", "b"), ("c",), ("d",)]), ("apart", 0, 2))
        self.assertEqual(common(T, [("a", "b", "c"), ("c",), ("a",), ("b",)]), ("apart", 1, 2))

    def test_pairs_are_ordered_as_python_orders_tuples(self):
        # (0, 3) comes before (1, 2), though its second index is greater.
        self.assertEqual(common(T, [("a", "b", "c"), ("c",), ("a",), ("d",)]), ("apart", 0, 3))
        self.assertEqual(common(T, [("a", "b"), ("b", "c"), ("b", "d"), ("c",)]), ("apart", 0, 3))

    def test_pairs_that_meet_but_not_all_of_them(self):
        self.assertEqual(common(LONG, [("a", "c", "e"), ("b", "e"), ("b", "d")]), ("apart", 0, 2))

    def test_one_group(self):
        self.assertEqual(common(T, [("b", "c", "d")]), ("node", "b"))
        self.assertEqual(common(T, [("d",)]), ("node", "d"))
        self.assertEqual(common(ONE, [("only",)]), ("node", "only"))

    def test_an_empty_family(self):
        for some_tree, name in ((T, "a"), (ONE, "only"), (TWO, "x"), (LONG, "a")):
            self.assertEqual(common(some_tree, []), ("node", name))

    def test_equal_groups(self):
        self.assertEqual(common(T, [("c",), ("c",), ("c",)]), ("node", "c"))
        self.assertEqual(common(T, [("c",), ("c",), ("d",), ("d",)]), ("apart", 0, 2))

    def test_families_of_many_trees(self):
        for some_tree in trees():
            for groups in families_of(some_tree, 12)[::1 + len(some_tree[0]) // 4]:
                self.assertEqual(common(some_tree, groups), slow_common(some_tree, groups))

    def test_all_families_of_three_groups_of_small_trees(self):
        for some_tree in (TWO, T, LONG):
            for groups in itertools.product(groups_of(some_tree), repeat=3):
                self.assertEqual(common(some_tree, list(groups)), slow_common(some_tree, groups))


class TestArguments(unittest.TestCase):
    def test_lists_that_are_passed_stay_as_they_are(self):
        groups, names, indices = [("b", "d"), ("a",), ("b",)], ["d", "b", "a"], [2, 1]
        hit(BUSH, groups)
        common(BUSH, groups)
        are_hit(groups, names)
        are_apart(groups, indices)
        self.assertEqual((groups, names, indices), ([("b", "d"), ("a",), ("b",)], ["d", "b", "a"], [2, 1]))

    def test_changing_an_answer_does_not_change_the_next_one(self):
        groups = [("b", "d"), ("a",), ("e",)]
        for _ in range(2):
            nodes, indices = hit(BUSH, groups)
            self.assertEqual((nodes, indices), (["a", "b", "e"], [0, 1, 2]))
            nodes.append("spoiled")
            indices.clear()
        nodes, indices = hit(BUSH, [])
        nodes.append("spoiled")
        indices.append(7)
        self.assertEqual(hit(BUSH, []), ([], []))
        self.assertEqual(groups, [("b", "d"), ("a",), ("e",)])


if __name__ == "__main__":
    unittest.main()
