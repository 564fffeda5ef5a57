"""Points [15], [16] and [2]: renamed trees, normal forms, the told renaming, and dicts that show trees alike."""

import itertools
import unittest

from tests.samples import LONG, NAMES, ONE, T, TWO, made, scattered, shapes, trees
from treeserved.alike import normal_form, renamed, renaming, shows_alike
from treeserved.errors import ShapeError
from treeserved.trees import names_of, tree

STAR = tree([(name, 1) for name in "mabc"], [("m", name, 5) for name in "abc"])
ROW = tree([(name, 1) for name in "abcd"], [("a", "b", 2), ("b", "c", 3), ("c", "d", 2)])


def slow_renamed(some_tree, names):
    """The tree with new names, or None if these are no renaming."""
    if len(set(names.values())) < len(some_tree[0]):
        return None
    nodes = sorted((names[name], weight) for name, weight in some_tree[0])
    edges = sorted((*sorted((names[one], names[two])), length) for one, two, length in some_tree[1])
    return tuple(nodes), tuple(edges)


def slow_renaming(some_tree, other):
    """The first list of new names that makes the other tree, by trying all of them in their order."""
    old, new = names_of(some_tree), names_of(other)
    if len(old) != len(new):
        return None
    for chosen in itertools.permutations(new):
        if slow_renamed(some_tree, dict(zip(old, chosen))) == other:
            return dict(zip(old, chosen))
    return None


def dealt(some_tree, shift):
    """A dict of new names, dealt out so that the order of the nodes changes."""
    names = names_of(some_tree)
    return {name: NAMES[(5 * k + shift) % 12] for k, name in enumerate(names)}


def plain(parents, length=1):
    """A tree of this shape with all weights 0 and all lengths the same, so that there are many renamings."""
    edges = [(NAMES[k + 1], NAMES[up], length) for k, up in enumerate(parents)]
    return tree([(NAMES[k], 0) for k in range(len(parents) + 1)], edges)


def changed(some_tree):
    """Trees that differ from a tree by 1 in one weight, or in one length."""
    nodes, edges = some_tree
    for k, (name, weight) in enumerate(nodes):
        yield nodes[:k] + ((name, weight + 1 if weight < 999 else 0),) + nodes[k + 1:], edges
    for k, (one, two, length) in enumerate(edges):
        yield nodes, edges[:k] + ((one, two, length + 1 if length < 999 else 1),) + edges[k + 1:]


class TestRenamed(unittest.TestCase):
    def test_the_same_names(self):
        for some_tree in trees():
            self.assertEqual(renamed(some_tree, {name: name for name in names_of(some_tree)}), some_tree)

    def test_other_names(self):
        self.assertEqual(renamed(T, {"a": "z", "b": "y", "c": "x", "d": "w1"}),
                         ((("w1", 1), ("x", 2), ("y", 0), ("z", 1)), (("w1", "y", 2), ("x", "y", 4), ("y", "z", 3))))
        self.assertEqual(renamed(ONE, {"only": "n"}), ((("n", 9),), ()))
        self.assertEqual(renamed(TWO, {"x": "y", "y": "x"}), ((("x", 1), ("y", 2)), (("x", "y", 999),)))

    def test_further_keys(self):
        self.assertEqual(renamed(ONE, {"only": "n", "m": "Q", "": ""}), ((("n", 9),), ()))

    def test_many_trees(self):
        for some_tree in trees():
            for shift in range(0, 12, 5):
                names = dealt(some_tree, shift)
                self.assertEqual(renamed(some_tree, names), slow_renamed(some_tree, names))

    def fault(self, some_tree, names):
        kept = dict(names)
        with self.assertRaises(ShapeError) as caught:
            renamed(some_tree, names)
        self.assertEqual(names, kept)
        return caught.exception.what, caught.exception.place

    def test_wrong_names(self):
        for word in ("", "1a", "A", "a b", "abcdefghi", "a_", "\n", " a"):
            self.assertEqual(self.fault(T, {"a": "x", "b": "y", "c": word, "d": "z"}), ("wrong name", 2))
            self.assertEqual(self.fault(ONE, {"only": word}), ("wrong name", 0))

    def test_doubled_names(self):
        self.assertEqual(self.fault(T, {"a": "x", "b": "y", "c": "x", "d": "z"}), ("named twice", 2))
        self.assertEqual(self.fault(T, {"a": "b", "b": "b", "c": "c", "d": "d"}), ("named twice", 1))
        self.assertEqual(self.fault(T, {"d": "x", "c": "x", "b": "c", "a": "d"}), ("named twice", 3))

    def test_the_first_fault_in_the_order_of_the_nodes(self):
        self.assertEqual(self.fault(T, {"d": "1", "c": "x", "b": "x", "a": "y"}), ("named twice", 2))
        self.assertEqual(self.fault(T, {"d": "x", "c": "1", "b": "x", "a": "y"}), ("wrong name", 2))
        self.assertEqual(self.fault(T, {"d": "1", "c": "1", "b": "1", "a": "1"}), ("wrong name", 0))

    def test_lengths_and_weights_are_not_asked_again(self):
        # A tree that is grown from a table may have such lengths.
        great = ((("a", 0), ("b", 0)), (("a", "b", 40000),))
        self.assertEqual(renamed(great, {"a": "y", "b": "x"}), ((("x", 0), ("y", 0)), (("x", "y", 40000),)))


class TestNormalForm(unittest.TestCase):
    def test_a_node_in_the_middle(self):
        self.assertEqual(normal_form(ONE), ("node", (9, ())))
        leaf = (1, ())
        self.assertEqual(normal_form(STAR), ("node", (1, ((5, leaf), (5, leaf), (5, leaf)))))
        # The pairs (length, form) are in ascending order.
        self.assertEqual(normal_form(T), ("node", (0, ((2, (1, ())), (3, (1, ())), (4, (2, ()))))))

    def test_an_edge_in_the_middle(self):
        self.assertEqual(normal_form(TWO), ("edge", 999, ((1, ()), (2, ()))))
        self.assertEqual(normal_form(ROW), ("edge", 3, ((1, ((2, (1, ())),)), (1, ((2, (1, ())),)))))

    def test_the_forms_of_the_middle_edge_are_ascending(self):
        for weights in ((3, 0, 2, 1), (1, 2, 0, 3)):
            some_tree = tree(list(zip("abcd", weights)), [("a", "b", 7), ("b", "c", 8), ("c", "d", 9)])
            wanted = sorted([(weights[1], ((7, (weights[0], ())),)), (weights[2], ((9, (weights[3], ())),))])
            self.assertEqual(normal_form(some_tree), ("edge", 8, tuple(wanted)))

    def test_equal_lengths_are_ordered_by_the_forms(self):
        some_tree = tree([("m", 0), ("a", 9), ("b", 3), ("c", 3), ("d", 1)],
                         [("m", "a", 4), ("m", "b", 4), ("m", "c", 4), ("c", "d", 2)])
        self.assertEqual(normal_form(some_tree)[0], "edge")
        some_tree = tree([("m", 0), ("a", 9), ("b", 3), ("c", 3)], [("m", "a", 4), ("m", "b", 4), ("m", "c", 4)])
        self.assertEqual(normal_form(some_tree), ("node", (0, ((4, (3, ())), (4, (3, ())), (4, (9, ()))))))

    def test_the_middle_counts_edges_and_not_lengths(self):
        some_tree = tree([(name, 0) for name in "abcde"],
                         [("a", "b", 1), ("b", "c", 1), ("c", "d", 1), ("d", "e", 999)])
        self.assertEqual(normal_form(some_tree),
                         ("node", (0, ((1, (0, ((1, (0, ())),))), (1, (0, ((999, (0, ())),)))))))

    def test_a_long_tree(self):
        # LONG is c - a - e - b - d with the weights 2, 0, 4, 1, 3 and the lengths 1, 2, 4, 8.
        self.assertEqual(normal_form(LONG), ("node", (4, ((2, (0, ((1, (2, ())),))), (4, (1, ((8, (3, ())),)))))))

    def test_it_stays_the_same_under_renaming(self):
        for some_tree in trees():
            for shift in range(0, 12, 5):
                self.assertEqual(normal_form(renamed(some_tree, dealt(some_tree, shift))), normal_form(some_tree))

    def test_it_changes_with_a_weight_or_a_length(self):
        for some_tree in (ONE, TWO, T, LONG, STAR, ROW):
            for other in changed(some_tree):
                wanted = slow_renaming(some_tree, other) is not None
                self.assertEqual(normal_form(other) == normal_form(some_tree), wanted)

    def test_it_changes_with_an_edge_that_is_moved(self):
        # The leaf d hangs on the leaf of a path, on its middle, or on its other leaf, which is the same as the first.
        hung = [tree([(name, 0) for name in "abcd"], [("a", "b", 1), ("b", "c", 1), (name, "d", 1)]) for name in "abc"]
        self.assertNotEqual(normal_form(hung[0]), normal_form(hung[1]))
        self.assertEqual(normal_form(hung[0]), normal_form(hung[2]))

    def test_same_forms_just_for_trees_that_are_alike(self):
        some_trees = [plain(parents, length) for parents in shapes() if len(parents) <= 4 for length in (1, 2)]
        some_trees = some_trees + [other for some_tree in some_trees[:12] for other in changed(some_tree)]
        for some_tree, other in itertools.combinations(some_trees, 2):
            wanted = slow_renaming(some_tree, other) is not None
            self.assertEqual(normal_form(some_tree) == normal_form(other), wanted)

    def test_kinds(self):
        self.assertIs(type(normal_form(T)), tuple)
        self.assertIs(type(normal_form(ROW)[2]), tuple)
        hash(normal_form(LONG))


class TestRenaming(unittest.TestCase):
    def test_a_tree_and_itself(self):
        # All names stay, since that is the first list of all.
        for some_tree in trees():
            found = renaming(some_tree, some_tree)
            names = names_of(some_tree)
            self.assertLessEqual([found[name] for name in names], names)
        for some_tree in (ONE, TWO, T, LONG, STAR):
            self.assertEqual(renaming(some_tree, some_tree), {name: name for name in names_of(some_tree)})

    def test_the_first_of_several(self):
        other = tree([(name, 1) for name in "wxyz"], [("x", name, 5) for name in "wyz"])
        self.assertEqual(renaming(STAR, other), {"a": "w", "b": "y", "c": "z", "m": "x"})
        other = tree([(name, 1) for name in "abcd"], [("d", "b", 2), ("b", "c", 3), ("c", "a", 2)])
        self.assertEqual(renaming(ROW, other), {"a": "a", "b": "c", "c": "b", "d": "d"})

    def test_a_first_choice_that_is_right_nowhere(self):
        # a is the end of the long arm; the least names of the other tree stand on the short ones.
        first = tree([(name, 0) for name in "abcde"], [("c", "b", 1), ("b", "a", 1), ("c", "d", 1), ("c", "e", 1)])
        other = tree([(name, 0) for name in "abcde"], [("c", "e", 1), ("e", "d", 1), ("c", "a", 1), ("c", "b", 1)])
        self.assertEqual(renaming(first, other), {"a": "d", "b": "e", "c": "c", "d": "a", "e": "b"})

    def test_keys_are_the_nodes_of_the_first_tree(self):
        found = renaming(T, renamed(T, {"a": "z", "b": "y", "c": "x", "d": "w"}))
        self.assertIs(type(found), dict)
        self.assertEqual(sorted(found), names_of(T))

    def test_small_trees_against_all_lists(self):
        for parents in shapes():
            if len(parents) <= 4:
                for some_tree in (plain(parents), made(parents), scattered(parents)):
                    for shift in range(12):
                        other = renamed(some_tree, dealt(some_tree, shift))
                        self.assertEqual(renaming(some_tree, other), slow_renaming(some_tree, other))

    def test_six_and_seven_nodes_against_all_lists(self):
        for parents in ([0, 0, 0, 1, 1], [0, 0, 1, 1, 2, 2], [0, 1, 2, 0, 4, 5], [0, 0, 0, 3, 3, 3]):
            some_tree = plain(parents)
            for shift in (1, 6):
                other = renamed(some_tree, dealt(some_tree, shift))
                self.assertEqual(renaming(some_tree, other), slow_renaming(some_tree, other))

    def test_many_trees(self):
        for parents in shapes():
            for some_tree in (plain(parents), made(parents), scattered(parents)):
                other = renamed(some_tree, dealt(some_tree, 7))
                found = renaming(some_tree, other)
                self.assertEqual(slow_renamed(some_tree, found), other)
                # The way that was dealt out is one, so the first one is not behind it.
                names = names_of(some_tree)
                way = dealt(some_tree, 7)
                self.assertLessEqual([found[name] for name in names], [way[name] for name in names])

    def test_a_great_star(self):
        star = plain([0] * 11)
        other = renamed(star, {name: NAMES[(k + 4) % 12] for k, name in enumerate(names_of(star))})
        middle = names_of(star).index(NAMES[0])
        leaves = [name for name in names_of(other) if name != NAMES[(middle + 4) % 12]]
        wanted = leaves[:middle] + [NAMES[(middle + 4) % 12]] + leaves[middle:]
        self.assertEqual(renaming(star, other), dict(zip(names_of(star), wanted)))

    def test_trees_that_are_not_alike(self):
        self.assertIsNone(renaming(STAR, ROW))
        for some_tree in (ONE, TWO, T, LONG):
            for other in changed(some_tree):
                self.assertEqual(renaming(some_tree, other), slow_renaming(some_tree, other))

    def test_different_numbers_of_nodes(self):
        for some_tree, other in itertools.permutations((ONE, TWO, T, LONG, made([0] * 11)), 2):
            self.assertIsNone(renaming(some_tree, other))


class TestShowsAlike(unittest.TestCase):
    OTHER = tree([("w", 1), ("x", 2), ("y", 0), ("z", 1)], [("w", "y", 2), ("x", "y", 4), ("y", "z", 3)])
    NAMES = {"a": "z", "b": "y", "c": "x", "d": "w"}

    def test_a_right_dict(self):
        self.assertIs(shows_alike(T, self.OTHER, self.NAMES), True)
        self.assertIs(shows_alike(T, self.OTHER, {"d": "w", "c": "x", "b": "y", "a": "z"}), True)
        self.assertIs(shows_alike(T, T, {name: name for name in "abcd"}), True)
        self.assertIs(shows_alike(ONE, ONE, {"only": "only"}), True)

    def test_any_right_dict_and_not_only_the_told_one(self):
        for leaves in itertools.permutations("abc"):
            self.assertIs(shows_alike(STAR, STAR, dict(zip("abcm", leaves + ("m",)))), True)
        self.assertIs(shows_alike(ROW, ROW, dict(zip("abcd", "dcba"))), True)

    def test_wrong_weights_or_lengths(self):
        self.assertIs(shows_alike(T, self.OTHER, {"a": "w", "b": "y", "c": "x", "d": "z"}), False)
        for other in changed(self.OTHER):
            self.assertIs(shows_alike(T, other, self.NAMES), False)

    def test_a_key_left_out(self):
        for name in "abcd":
            self.assertIs(shows_alike(T, self.OTHER, {k: self.NAMES[k] for k in "abcd" if k != name}), False)
        self.assertIs(shows_alike(T, self.OTHER, {}), False)

    def test_a_key_too_many(self):
        for name, new in (("e", "v"), ("e", "z"), ("", ""), ("A", "1")):
            self.assertIs(shows_alike(T, self.OTHER, {**self.NAMES, name: new}), False)

    def test_a_name_doubled(self):
        for name in "abcd":
            for new in "wxyz":
                wanted = self.NAMES[name] == new
                self.assertIs(shows_alike(T, self.OTHER, {**self.NAMES, name: new}), wanted)

    def test_a_name_that_the_other_tree_has_not_or_that_is_none(self):
        for name in "abcd":
            for new in ("a", "v", "", "A", "1", "a b", "zz"):
                self.assertIs(shows_alike(T, self.OTHER, {**self.NAMES, name: new}), False)

    def test_different_numbers_of_nodes(self):
        self.assertIs(shows_alike(ONE, TWO, {"only": "x"}), False)
        self.assertIs(shows_alike(TWO, ONE, {"x": "only", "y": "only"}), False)
        self.assertIs(shows_alike(T, ONE, {name: "only" for name in "abcd"}), False)

    def test_all_dicts_of_small_trees(self):
        for some_tree in (TWO, tree([(name, 1) for name in "abc"], [("a", "b", 3), ("b", "c", 3)]), STAR):
            names = names_of(some_tree)
            for chosen in itertools.product(names, repeat=len(names)):
                found = dict(zip(names, chosen))
                wanted = slow_renamed(some_tree, found) == some_tree
                self.assertIs(shows_alike(some_tree, some_tree, found), wanted)

    def test_the_told_renaming_shows_it(self):
        for some_tree in trees():
            other = renamed(some_tree, dealt(some_tree, 2))
            self.assertIs(shows_alike(some_tree, other, renaming(some_tree, other)), True)


class TestArguments(unittest.TestCase):
    def test_dicts_that_are_passed_stay_as_they_are(self):
        names = {"d": "w", "c": "x", "b": "y", "a": "z"}
        renamed(T, names)
        shows_alike(T, T, names)
        self.assertEqual(list(names.items()), [("d", "w"), ("c", "x"), ("b", "y"), ("a", "z")])

    def test_changing_an_answer_does_not_change_the_next_one(self):
        for _ in range(2):
            found = renaming(STAR, STAR)
            self.assertEqual(found, {name: name for name in "abcm"})
            found.clear()


if __name__ == "__main__":
    unittest.main()
