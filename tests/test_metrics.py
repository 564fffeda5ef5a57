"""Points [17] to [20] and [2]: tables of distances, the rule of four names, and the trees that are grown from tables."""

import itertools
import unittest

from tests.samples import LONG, ONE, T, TWO, slow_all, trees
from treeserved.errors import MetricError
from treeserved.metrics import breaks_rule, distance_in, four_places, grown, table, table_of, three_places
from treeserved.trees import names_of, tree

WRONG_NAMES = ("", "abcdefghi", "1a", "A", "a b", "a_b", " ", "\n", "a\n", "{")


def pairs_of(names, distances):
    """The pairs of names, in the order of tuples, with these distances."""
    return [(one, two, far) for (one, two), far in zip(itertools.combinations(names, 2), distances)]


def slow_breaks(some_table, four):
    names, rows = some_table
    far = {(one, two): rows[i][j] for i, one in enumerate(names) for j, two in enumerate(names)}
    w, x, y, z = four
    one, two, three = far[w, x] + far[y, z], far[w, y] + far[x, z], far[w, z] + far[x, y]
    return one > two and one > three or two > one and two > three or three > one and three > two


def slow_four(some_table):
    fours = itertools.combinations_with_replacement(some_table[0], 4)
    return next((four for four in fours if slow_breaks(some_table, four)), None)


def slow_three(some_table):
    names, rows = some_table
    for i, j, k in itertools.combinations(range(len(names)), 3):
        far = [rows[i][j], rows[i][k], rows[j][k]]
        if far.count(max(far)) == 1:
            return names[i], names[j], names[k]
    return None


def ends_of(edges):
    return [name for one, two, _ in edges for name in (one, two)]


def slow_grown(some_tree, names):
    """The tree with twice the distances of these nodes: unnamed nodes with at most two neighbors are taken away."""
    edges = [(one, two, 2 * length) for one, two, length in some_tree[1]]
    nodes = set(names_of(some_tree))
    while True:
        ends = ends_of(edges)
        idle = sorted(name for name in nodes if name not in names and ends.count(name) <= 2)
        if not idle:
            break
        gone = [edge for edge in edges if idle[0] in edge[:2]]
        edges = [edge for edge in edges if edge not in gone]
        if len(gone) == 2:
            one, two = [name for name in ends_of(gone) if name != idle[0]]
            edges.append((one, two, gone[0][2] + gone[1][2]))
        nodes.remove(idle[0])
    # The nodes without a name are named in the order of their distances to the names.
    table_of_all = slow_all(some_tree)
    hidden = sorted(nodes - set(names), key=lambda name: [table_of_all[name][other] for other in sorted(names)])
    free = [f"h{k}" for k in range(1, 20) if f"h{k}" not in names]
    new = {**{name: name for name in names}, **dict(zip(hidden, free))}
    turned = sorted((*sorted((new[one], new[two])), length) for one, two, length in edges)
    return tuple(sorted((new[name], 0) for name in nodes)), tuple(turned)


def choices(some_tree):
    """Lists of 1 to 7 different nodes of a tree, in several orders."""
    names = names_of(some_tree)
    for count in range(1, min(7, len(names)) + 1):
        for start in range(0, len(names), 2):
            yield list(dict.fromkeys(names[(start + 5 * k) % len(names)] for k in range(12)))[:count]


class TestTable(unittest.TestCase):
    def test_any_order_and_either_way_round(self):
        wanted = (("a", "b", "c"), ((0, 4, 5), (4, 0, 3), (5, 3, 0)))
        for pairs in itertools.permutations([("a", "b", 4), ("a", "c", 5), ("b", "c", 3)]):
            for turns in itertools.product((False, True), repeat=3):
                turned = [(b, a, far) if turn else (a, b, far) for (a, b, far), turn in zip(pairs, turns)]
                self.assertEqual(table(turned), wanted)

    def test_one_pair(self):
        self.assertEqual(table([("y", "x", 1)]), (("x", "y"), ((0, 1), (1, 0))))

    def test_seven_names(self):
        some_table = table(pairs_of("gfedcba", range(1, 22)))
        self.assertEqual(some_table[0], tuple("abcdefg"))
        self.assertEqual([len(row) for row in some_table[1]], [7] * 7)
        for (one, two), far in zip(itertools.combinations("gfedcba", 2), range(1, 22)):
            self.assertEqual((distance_in(some_table, one, two), distance_in(some_table, two, one)), (far, far))

    def test_names_are_ordered_as_strings(self):
        self.assertEqual(table(pairs_of(["b2", "b10", "b"], (1, 2, 3)))[0], ("b", "b10", "b2"))

    def test_the_least_and_the_greatest_distance(self):
        self.assertEqual(table([("a", "b", 1)])[1][0], (0, 1))
        self.assertEqual(table([("a", "b", 20000)])[1][0], (0, 20000))

    def test_kinds(self):
        names, rows = table([("a", "b", 1)])
        self.assertEqual((type(names), type(rows), type(rows[0])), (tuple, tuple, tuple))

    def fault(self, pairs):
        kept = list(pairs)
        with self.assertRaises(MetricError) as caught:
            table(pairs)
        self.assertEqual(pairs, kept)
        return caught.exception.what, caught.exception.place

    def test_wrong_name(self):
        for word in WRONG_NAMES:
            self.assertEqual(self.fault([(word, "b", 1)]), ("wrong name", 0))
            self.assertEqual(self.fault([("a", "b", 1), ("b", word, 1)]), ("wrong name", 1))
        self.assertEqual(self.fault([("a", "b", 1), ("c", "c", 1)]), ("wrong name", 1))
        self.assertEqual(self.fault([("", "", 1)]), ("wrong name", 0))

    def test_wrong_distance(self):
        for far in (0, -1, 20001, 10 ** 9):
            self.assertEqual(self.fault([("a", "b", far)]), ("wrong distance", 0))
            self.assertEqual(self.fault([("a", "b", 1), ("a", "c", 1), ("b", "c", far)]), ("wrong distance", 2))

    def test_named_twice(self):
        self.assertEqual(self.fault([("a", "b", 1), ("a", "b", 1)]), ("named twice", 1))
        self.assertEqual(self.fault([("a", "b", 1), ("c", "b", 1), ("b", "a", 2)]), ("named twice", 2))

    def test_the_first_fault_of_a_pair(self):
        self.assertEqual(self.fault([("A", "b", 0)]), ("wrong name", 0))
        self.assertEqual(self.fault([("b", "b", 20001)]), ("wrong name", 0))
        self.assertEqual(self.fault([("a", "b", 1), ("b", "a", 0)]), ("wrong distance", 1))
        self.assertEqual(self.fault([("a", "b", 0), ("A", "b", 1)]), ("wrong distance", 0))

    def test_the_first_pair_that_has_one(self):
        self.assertEqual(self.fault([("a", "b", 1), ("a", "b", 1), ("", "c", 1)]), ("named twice", 1))
        self.assertEqual(self.fault([("a", "b", 20001), ("a", "a", 1)]), ("wrong distance", 0))

    def test_no_pairs(self):
        self.assertEqual(self.fault([]), ("no pairs", -1))

    def test_too_many_names(self):
        self.assertEqual(self.fault(pairs_of("abcdefgh", [1] * 28)), ("too many names", -1))
        # Pairs are missing here, too, but this comes later.
        self.assertEqual(self.fault([("a", "b", 1), ("c", "d", 1), ("e", "f", 1), ("g", "h", 1)]),
                         ("too many names", -1))

    def test_missing_pair(self):
        pairs = pairs_of("abcdefg", [1] * 21)
        for k in range(21):
            self.assertEqual(self.fault(pairs[:k] + pairs[k + 1:]), ("missing pair", -1))
        self.assertEqual(self.fault([("a", "b", 1), ("c", "d", 1)]), ("missing pair", -1))

    def test_faults_of_pairs_come_before_those_behind_them(self):
        self.assertEqual(self.fault(pairs_of("abcdefgh", [1] * 27 + [0])), ("wrong distance", 27))
        self.assertEqual(self.fault([("a", "b", 1), ("c", "d", 1), ("e", "E", 1)]), ("wrong name", 2))


class TestTableOf(unittest.TestCase):
    def test_one_node(self):
        self.assertEqual(table_of(ONE, ["only"]), (("only",), ((0,),)))
        self.assertEqual(table_of(T, ["c"]), (("c",), ((0,),)))

    def test_any_order(self):
        for names in itertools.permutations("acd"):
            self.assertEqual(table_of(T, list(names)), (("a", "c", "d"), ((0, 7, 5), (7, 0, 6), (5, 6, 0))))

    def test_many_trees(self):
        for some_tree in trees():
            far = slow_all(some_tree)
            for names in choices(some_tree):
                ordered = sorted(names)
                wanted = tuple(ordered), tuple(tuple(far[one][two] for two in ordered) for one in ordered)
                self.assertEqual(table_of(some_tree, names), wanted)

    def test_it_breaks_the_rule_nowhere(self):
        for some_tree in trees():
            for names in choices(some_tree):
                self.assertIsNone(four_places(table_of(some_tree, names)))


class TestDistanceIn(unittest.TestCase):
    def test_both_orders_and_a_name_and_itself(self):
        some_table = table(pairs_of("abc", (4, 5, 3)))
        self.assertEqual([[distance_in(some_table, one, two) for two in "abc"] for one in "abc"],
                         [[0, 4, 5], [4, 0, 3], [5, 3, 0]])


class TestBreaksRule(unittest.TestCase):
    def test_four_different_names(self):
        # The pairs ab and cd are near to each other, or far; the rule does not care which sum is the least one.
        for distances, wanted in (((2, 5, 5, 5, 5, 2), False), ((9, 5, 5, 5, 5, 9), True), ((5, 5, 5, 5, 5, 5), False),
                                  ((5, 6, 5, 5, 5, 5), True), ((5, 6, 5, 5, 6, 5), True), ((5, 6, 6, 6, 6, 5), False),
                                  ((5, 6, 5, 6, 6, 6), True), ((5, 5, 6, 5, 5, 5), True)):
            some_table = table(pairs_of("abcd", distances))
            for four in itertools.permutations("abcd"):
                self.assertIs(breaks_rule(some_table, four), wanted, (distances, four))

    def test_one_of_them_twice(self):
        # a and b are farther from each other than by way of c.
        some_table = table(pairs_of("abc", (9, 5, 3)))
        for four in set(itertools.permutations("abcc")):
            self.assertIs(breaks_rule(some_table, four), True)
        for four in set(itertools.permutations("aabc")) | set(itertools.permutations("abbc")):
            self.assertIs(breaks_rule(some_table, four), False)

    def test_just_as_far_as_by_way_of_it(self):
        some_table = table(pairs_of("abc", (8, 5, 3)))
        for four in itertools.product("abc", repeat=4):
            self.assertIs(breaks_rule(some_table, four), False)

    def test_few_different_names(self):
        some_table = table([("a", "b", 20000)])
        for four in itertools.product("ab", repeat=4):
            self.assertIs(breaks_rule(some_table, four), False)

    def test_all_quadruples_of_many_tables(self):
        for distances in itertools.product((1, 2, 3), repeat=6):
            some_table = table(pairs_of("abcd", distances))
            for four in list(itertools.product("abcd", repeat=4))[sum(distances) % 5::7]:
                self.assertIs(breaks_rule(some_table, four), slow_breaks(some_table, four))


class TestPlaces(unittest.TestCase):
    def test_examples_of_the_interface(self):
        self.assertIsNone(four_places(table([("a", "b", 4), ("a", "c", 5), ("b", "c", 3)])))
        self.assertEqual(four_places(table([("a", "b", 9), ("a", "c", 5), ("b", "c", 3)])), ("a", "b", "c", "c"))

    def test_the_first_of_several(self):
        for distances in itertools.product((1, 2, 4), repeat=6):
            some_table = table(pairs_of("abcd", distances))
            self.assertEqual(four_places(some_table), slow_four(some_table))
            self.assertEqual(three_places(some_table), slow_three(some_table))

    def test_seven_names_that_break_it_late(self):
        pairs = pairs_of("abcdefg", [5] * 20 + [11])
        self.assertEqual(four_places(table(pairs)), ("a", "a", "f", "g"))
        self.assertEqual(three_places(table(pairs)), ("a", "f", "g"))
        self.assertIsNone(four_places(table(pairs_of("abcdefg", [5] * 21))))
        self.assertIsNone(three_places(table(pairs_of("abcdefg", [5] * 21))))

    def test_any_of_three_names_may_be_the_one_that_is_there_twice(self):
        self.assertEqual(four_places(table(pairs_of("abc", (5, 3, 9)))), ("a", "a", "b", "c"))
        self.assertEqual(four_places(table(pairs_of("abc", (5, 9, 3)))), ("a", "b", "b", "c"))

    def test_few_names(self):
        self.assertIsNone(four_places(table([("a", "b", 7)])))
        self.assertIsNone(three_places(table([("a", "b", 7)])))
        self.assertIsNone(four_places(table_of(ONE, ["only"])))
        self.assertIsNone(three_places(table_of(ONE, ["only"])))

    def test_three_places(self):
        self.assertIsNone(three_places(table(pairs_of("abc", (4, 6, 6)))))
        self.assertIsNone(three_places(table(pairs_of("abc", (6, 6, 4)))))
        self.assertEqual(three_places(table(pairs_of("abc", (4, 4, 6)))), ("a", "b", "c"))
        self.assertEqual(three_places(table(pairs_of("abc", (4, 5, 6)))), ("a", "b", "c"))
        self.assertEqual(three_places(table(pairs_of("abcd", (4, 4, 4, 4, 4, 6)))), ("a", "c", "d"))

    def test_a_clocklike_table_breaks_the_rule_nowhere(self):
        clocklike = 0
        for distances in itertools.product((1, 2, 3), repeat=6):
            some_table = table(pairs_of("abcd", distances))
            if three_places(some_table) is None:
                clocklike += 1
                self.assertIsNone(four_places(some_table))
        self.assertGreater(clocklike, 10)

    def test_kinds(self):
        self.assertIs(type(four_places(table(pairs_of("abc", (9, 5, 3))))), tuple)
        self.assertIs(type(three_places(table(pairs_of("abc", (9, 5, 3))))), tuple)


class TestGrown(unittest.TestCase):
    def test_examples_of_the_interface(self):
        some_table = table([("a", "b", 4), ("a", "c", 5), ("b", "c", 3)])
        self.assertEqual(grown(some_table)[1], (("a", "h1", 6), ("b", "h1", 2), ("c", "h1", 4)))
        self.assertEqual(grown(some_table)[0], (("a", 0), ("b", 0), ("c", 0), ("h1", 0)))

    def test_one_name_and_two(self):
        self.assertEqual(grown(table_of(ONE, ["only"])), ((("only", 0),), ()))
        self.assertEqual(grown(table([("b", "a", 20000)])), ((("a", 0), ("b", 0)), (("a", "b", 40000),)))

    def test_a_name_that_lies_between_others(self):
        self.assertEqual(grown(table(pairs_of("abc", (2, 5, 3)))),
                         ((("a", 0), ("b", 0), ("c", 0)), (("a", "b", 4), ("b", "c", 6))))
        # m is the meeting of the three others.
        self.assertEqual(grown(table(pairs_of("abcm", (3, 4, 1, 5, 2, 3))))[1],
                         (("a", "m", 2), ("b", "m", 4), ("c", "m", 6)))

    def test_a_hidden_node_with_four_neighbors(self):
        self.assertEqual(grown(table(pairs_of("abcd", [1] * 6)))[1],
                         (("a", "h1", 1), ("b", "h1", 1), ("c", "h1", 1), ("d", "h1", 1)))

    def test_two_hidden_nodes(self):
        # ab and cd are near to each other; h1 is the one that is nearer to a.
        self.assertEqual(grown(table(pairs_of("abcd", (2, 6, 6, 6, 6, 2))))[1],
                         (("a", "h1", 2), ("b", "h1", 2), ("c", "h2", 2), ("d", "h2", 2), ("h1", "h2", 8)))

    def test_tables_of_no_tree(self):
        for names, distances in (("abc", (9, 5, 3)), ("abcd", (2, 6, 6, 6, 6, 20)), ("abcd", (5, 6, 5, 5, 5, 5))):
            self.assertIsNone(grown(table(pairs_of(names, distances))))

    def test_hidden_nodes_are_ordered_by_lists_of_distances(self):
        # Both are equally far from a, which hangs between them, so b tells.
        some_tree = tree([(name, 0) for name in "abcdexyz"],
                         [("a", "z", 1), ("z", "x", 1), ("z", "y", 1), ("x", "d", 1), ("x", "e", 1), ("y", "b", 1),
                          ("y", "c", 1)])
        self.assertEqual(grown(table_of(some_tree, list("abcde")))[1],
                         (("a", "h1", 2), ("b", "h2", 2), ("c", "h2", 2), ("d", "h3", 2), ("e", "h3", 2),
                          ("h1", "h2", 2), ("h1", "h3", 2)))

    def test_names_like_those_of_hidden_nodes(self):
        self.assertEqual(grown(table(pairs_of(["h1", "h2", "x"], (2, 2, 2))))[1],
                         (("h1", "h3", 2), ("h2", "h3", 2), ("h3", "x", 2)))
        self.assertEqual(grown(table(pairs_of(["h2", "x", "y", "z"], (2, 6, 6, 6, 6, 2))))[1],
                         (("h1", "h2", 2), ("h1", "h3", 8), ("h1", "x", 2), ("h3", "y", 2), ("h3", "z", 2)))

    def test_seven_names_like_those_of_hidden_nodes(self):
        some_table = table(pairs_of([f"h{k}" for k in range(1, 8)], [1] * 21))
        self.assertEqual([name for name, _ in grown(some_table)[0]], [f"h{k}" for k in range(1, 9)])

    def test_seven_names_with_five_hidden_nodes(self):
        some_tree = tree([(name, 0) for name in "abcdefgvwxyz"],
                         [("a", "v", 1), ("b", "v", 2), ("v", "w", 3), ("c", "w", 4), ("w", "x", 5), ("d", "x", 6),
                          ("x", "y", 7), ("e", "y", 8), ("y", "z", 9), ("f", "z", 10), ("g", "z", 999)])
        found = grown(table_of(some_tree, list("gfedcba")))
        self.assertEqual(found, slow_grown(some_tree, list("abcdefg")))
        self.assertEqual(len(found[0]), 12)
        self.assertIn(("g", "h5", 1998), found[1])

    def test_tables_of_many_trees(self):
        for some_tree in trees():
            for names in choices(some_tree):
                self.assertEqual(grown(table_of(some_tree, names)), slow_grown(some_tree, names))

    def test_what_is_told_of_grown_trees(self):
        for some_tree in (T, TWO, LONG) + tuple(trees()[-30:]):
            for names in choices(some_tree):
                some_table = table_of(some_tree, names)
                found = grown(some_table)
                far = slow_all(found)
                for one, two in itertools.product(names, repeat=2):
                    self.assertEqual(far[one][two], 2 * distance_in(some_table, one, two))
                self.assertEqual({weight for _, weight in found[0]}, {0})
                hidden = [name for name in names_of(found) if name not in names]
                free = [f"h{k}" for k in range(1, 13) if f"h{k}" not in names]
                self.assertEqual(sorted(hidden), sorted(free[:len(hidden)]))
                rows = [[far[name][other] for other in sorted(names)] for name in free[:len(hidden)]]
                self.assertEqual(rows, sorted(rows))
                for name in hidden:
                    self.assertGreaterEqual(ends_of(found[1]).count(name), 3)

    def test_growing_again(self):
        for some_tree in trees():
            for names in choices(some_tree):
                once = grown(table_of(some_tree, names))
                again = grown(table_of(once, names))
                self.assertEqual(again, (once[0], tuple((one, two, 2 * length) for one, two, length in once[1])))

    def test_none_just_where_four_names_break_the_rule(self):
        kept = 0
        for distances in itertools.product((1, 2, 3, 4), repeat=6):
            some_table = table(pairs_of("abcd", distances))
            found = grown(some_table)
            self.assertEqual(found is None, slow_four(some_table) is not None)
            if found is not None:
                kept += 1
                far = slow_all(found)
                for one, two in itertools.product("abcd", repeat=2):
                    self.assertEqual(far[one][two], 2 * distance_in(some_table, one, two))
        self.assertGreater(kept, 100)


class TestArguments(unittest.TestCase):
    def test_lists_that_are_passed_stay_as_they_are(self):
        pairs, names = [("b", "a", 4), ("c", "a", 5), ("b", "c", 3)], ["d", "a", "c"]
        table(pairs)
        table_of(T, names)
        self.assertEqual((pairs, names), ([("b", "a", 4), ("c", "a", 5), ("b", "c", 3)], ["d", "a", "c"]))


if __name__ == "__main__":
    unittest.main()
