"""Points [28], [29] and [2]: the fewest cuts, the parts that are left, and the ledger."""

import itertools
import unittest

from tests.samples import LONG, ONE, T, TWO, links, made, slow_path, trees
from treeserved.parts import cuts, is_right, ledger, parts_of
from treeserved.trees import names_of, tree

# The path a - b - c - d - e with the weights 3, 1, 4, 1, 5, and a star with the root a in the middle.
ROW = tree(list(zip("abcde", (3, 1, 4, 1, 5))), [(one, two, 1) for one, two in ("ab", "bc", "cd", "de")])
STAR = tree(list(zip("abcde", (2, 3, 5, 3, 5))), [("a", name, 1) for name in "bcde"])
EMPTY = tree([(name, 0) for name in "abc"], [("a", "b", 1), ("b", "c", 1)])


def bounds_of(some_tree):
    """Bounds below the heaviest node, just at it, in between, at the whole weight, and beyond it."""
    weights = [weight for _, weight in some_tree[0]]
    heaviest, whole = max(weights), sum(weights)
    between = {heaviest + (whole - heaviest) * k // 6 for k in range(7)}
    return sorted({0, heaviest - 1, heaviest, heaviest + 1, whole - 1, whole, whole + 1, whole + 1000} | between)


def slow_parts(some_tree, edges):
    """The parts, as trees, grown from each node by the edges that are left."""
    left = [edge for edge in some_tree[1] if edge[:2] not in edges]
    found = []
    for name, _ in some_tree[0]:
        if not any(name in names for names, _, _ in found):
            names = {name}
            for _ in some_tree[0]:
                names |= {other for edge in left if set(edge[:2]) & names for other in edge[:2]}
            found.append((names, tuple(row for row in some_tree[0] if row[0] in names),
                          tuple(edge for edge in left if edge[0] in names)))
    return [(nodes, edges) for _, nodes, edges in found]


def heaviest_part(some_tree, edges):
    return max(sum(weight for _, weight in nodes) for nodes, _ in slow_parts(some_tree, edges))


def fewest(some_tree, bound):
    """The least number of edges whose cutting leaves parts of at most the bound, by trying all of them; or None."""
    edges = [edge[:2] for edge in some_tree[1]]
    for count in range(len(edges) + 1):
        if any(heaviest_part(some_tree, chosen) <= bound for chosen in itertools.combinations(edges, count)):
            return count
    return None


def slow_ledger(some_tree, bound):
    """The told cuts and the ledger, node by node from those with the longest ways to the first node; or None."""
    root = names_of(some_tree)[0]
    table, weights = links(some_tree), dict(some_tree[0])
    ways = {name: slow_path(some_tree, name, root) for name in table}
    held, count, edges = {}, {}, []
    for name in sorted(table, key=lambda name: -len(ways[name])):
        ends = [other for other in table[name] if other not in ways[name]]
        count[name] = sum(count[other] for other in ends)
        while weights[name] + sum(held[other] for other in ends) > bound:
            if not ends:
                return None
            most = sorted(other for other in ends if held[other] == max(held[one] for one in ends))[0]
            ends.remove(most)
            edges.append(tuple(sorted((name, most))))
            count[name] += 1
        held[name] = weights[name] + sum(held[other] for other in ends)
    return sorted(edges), [(name, count[name], held[name]) for name in sorted(table)]


class TestCuts(unittest.TestCase):
    def test_a_row(self):
        for bound, wanted in ((4, None), (5, [("b", "c"), ("d", "e")]), (6, [("a", "b"), ("c", "d")]),
                              (13, [("a", "b")]), (14, []), (15, [])):
            self.assertEqual(cuts(ROW, bound), wanted, bound)

    def test_several_neighbors_that_hold_equally_much(self):
        # The heaviest of the neighbors are c and e, then b and d.
        for bound, wanted in ((17, "c"), (13, "c"), (12, "ce"), (8, "ce"), (7, "bce"), (5, "bce"), (18, "")):
            self.assertEqual(cuts(STAR, bound), [("a", name) for name in wanted], bound)

    def test_the_least_one_by_name_and_not_by_order_of_work(self):
        some_tree = tree([(name, 4) for name in "abcd"], [("b", "a", 1), ("b", "c", 1), ("b", "d", 1)])
        self.assertEqual(cuts(some_tree, 12), [("a", "b")])
        self.assertEqual(cuts(some_tree, 8), [("a", "b"), ("b", "c")])
        self.assertEqual(cuts(some_tree, 4), [("a", "b"), ("b", "c"), ("b", "d")])

    def test_bounds_below_the_heaviest_node(self):
        for some_tree in (ONE, TWO, T, LONG, ROW, STAR):
            heaviest = max(weight for _, weight in some_tree[0])
            for bound in (heaviest - 1, 0, -1, -1000):
                self.assertIsNone(cuts(some_tree, bound))

    def test_the_whole_weight_and_beyond(self):
        for some_tree in trees():
            whole = sum(weight for _, weight in some_tree[0])
            for bound in (whole, whole + 1, 10 ** 9):
                self.assertEqual(cuts(some_tree, bound), [])

    def test_the_bound_zero_with_all_weights_zero(self):
        self.assertEqual(cuts(EMPTY, 0), [])
        self.assertIsNone(cuts(EMPTY, -1))

    def test_the_edges_are_ascending_with_the_lesser_node_first(self):
        some_tree = tree([("z", 5), ("y", 5), ("a", 5)], [("y", "z", 1), ("z", "a", 1)])
        self.assertEqual(cuts(some_tree, 5), [("a", "z"), ("y", "z")])

    def test_many_trees(self):
        for some_tree in trees():
            for bound in bounds_of(some_tree):
                found, wanted = cuts(some_tree, bound), slow_ledger(some_tree, bound)
                self.assertEqual(found, wanted and wanted[0])
                if found is not None:
                    self.assertLessEqual(heaviest_part(some_tree, found), bound)

    def test_no_choice_of_fewer_edges_does(self):
        for some_tree in trees():
            if len(some_tree[0]) <= 7:
                for bound in bounds_of(some_tree):
                    found = cuts(some_tree, bound)
                    self.assertEqual(None if found is None else len(found), fewest(some_tree, bound))

    def test_a_greater_tree(self):
        some_tree = made([k // 2 for k in range(8)])
        for bound in bounds_of(some_tree):
            found = cuts(some_tree, bound)
            self.assertEqual(None if found is None else len(found), fewest(some_tree, bound))


class TestPartsOf(unittest.TestCase):
    def test_no_edge(self):
        for some_tree in trees():
            self.assertEqual(parts_of(some_tree, []), [some_tree])

    def test_some_edges_in_any_order(self):
        wanted = [((("a", 3), ("b", 1)), (("a", "b", 1),)), ((("c", 4),), ()), ((("d", 1), ("e", 5)), (("d", "e", 1),))]
        self.assertEqual(parts_of(ROW, [("b", "c"), ("c", "d")]), wanted)
        self.assertEqual(parts_of(ROW, [("c", "d"), ("b", "c")]), wanted)

    def test_either_name_first(self):
        self.assertEqual(parts_of(ROW, [("c", "b"), ("c", "d")]), parts_of(ROW, [("b", "c"), ("c", "d")]))

    def test_all_edges(self):
        for some_tree in trees():
            wanted = [((row,), ()) for row in some_tree[0]]
            self.assertEqual(parts_of(some_tree, [edge[:2] for edge in reversed(some_tree[1])]), wanted)

    def test_parts_are_ordered_by_their_first_nodes(self):
        # LONG is c - a - e - b - d.
        self.assertEqual([names_of(part) for part in parts_of(LONG, [("a", "e")])], [["a", "c"], ["b", "d", "e"]])
        self.assertEqual([names_of(part) for part in parts_of(LONG, [("a", "c"), ("b", "d")])],
                         [["a", "b", "e"], ["c"], ["d"]])

    def test_many_trees(self):
        for some_tree in trees():
            edges = [edge[:2] for edge in some_tree[1]]
            for step in range(1, 6):
                chosen = edges[step % 2::step]
                self.assertEqual(parts_of(some_tree, chosen[::-1]), slow_parts(some_tree, chosen))


class TestLedger(unittest.TestCase):
    def test_row_by_row(self):
        self.assertEqual(ledger(ROW, 5), [("a", 2, 4), ("b", 2, 1), ("c", 1, 5), ("d", 1, 1), ("e", 0, 5)])
        self.assertEqual(ledger(ROW, 6), [("a", 2, 3), ("b", 1, 5), ("c", 1, 4), ("d", 0, 6), ("e", 0, 5)])
        self.assertEqual(ledger(STAR, 12), [("a", 2, 8), ("b", 0, 3), ("c", 0, 5), ("d", 0, 3), ("e", 0, 5)])
        self.assertEqual(ledger(EMPTY, 0), [("a", 0, 0), ("b", 0, 0), ("c", 0, 0)])

    def test_none_where_cuts_is_none(self):
        for some_tree in trees():
            for bound in bounds_of(some_tree) + [-1]:
                self.assertEqual(ledger(some_tree, bound) is None, cuts(some_tree, bound) is None)

    def test_many_trees(self):
        for some_tree in trees():
            for bound in bounds_of(some_tree):
                rows, wanted = ledger(some_tree, bound), slow_ledger(some_tree, bound)
                self.assertEqual(rows, wanted and wanted[1])
                if rows is not None:
                    self.assertEqual(rows[0][1], len(cuts(some_tree, bound)))


class TestIsRight(unittest.TestCase):
    def test_right_ledgers(self):
        for some_tree in trees():
            for bound in bounds_of(some_tree):
                rows = ledger(some_tree, bound)
                if rows is not None:
                    self.assertIs(is_right(some_tree, bound, rows), True)

    def test_a_number_changed(self):
        for some_tree, bound in ((ROW, 5), (ROW, 6), (STAR, 12), (EMPTY, 0), (ONE, 9), (TWO, 2)):
            rows = ledger(some_tree, bound)
            for at, (name, count, held) in enumerate(rows):
                for other in ((name, count + 1, held), (name, count - 1, held), (name, count, held + 1),
                              (name, count, held - 1), (name, held, count), (name, count + 1, 0)):
                    if other != rows[at]:
                        self.assertIs(is_right(some_tree, bound, rows[:at] + [other] + rows[at + 1:]), False)

    def test_a_row_left_out_doubled_or_moved(self):
        rows = ledger(ROW, 5)
        for at in range(5):
            self.assertIs(is_right(ROW, 5, rows[:at] + rows[at + 1:]), False)
            self.assertIs(is_right(ROW, 5, rows[:at] + [rows[at]] + rows[at:]), False)
        for order in itertools.permutations(rows):
            self.assertIs(is_right(ROW, 5, list(order)), list(order) == rows)
        self.assertIs(is_right(ROW, 5, []), False)

    def test_another_name(self):
        rows = ledger(STAR, 12)
        for at, (_, count, held) in enumerate(rows):
            for name in ("q", "", "A", "a", "e"):
                wanted = name == "abcde"[at]
                self.assertIs(is_right(STAR, 12, rows[:at] + [(name, count, held)] + rows[at + 1:]), wanted)

    def test_one_more_row_for_a_string_that_is_no_node(self):
        self.assertIs(is_right(ONE, 9, [("only", 0, 9), ("q", 0, 0)]), False)

    def test_another_bound(self):
        rows = ledger(ROW, 5)
        for bound in range(-1, 16):
            self.assertIs(is_right(ROW, bound, rows), bound == 5)

    def test_a_node_that_is_heavier_than_the_bound(self):
        for some_tree in (ONE, TWO, ROW):
            for rows in ([], ledger(some_tree, 99), [(name, 0, 0) for name in names_of(some_tree)]):
                self.assertIs(is_right(some_tree, 0, rows), False)

    def test_a_wasteful_ledger_is_not_right(self):
        # Cutting both edges of b as well holds less, but the least number of cuts is asked for.
        self.assertIs(is_right(EMPTY, 0, [("a", 2, 0), ("b", 1, 0), ("c", 0, 0)]), False)


class TestArguments(unittest.TestCase):
    def test_lists_that_are_passed_stay_as_they_are(self):
        edges, rows = [("c", "d"), ("b", "c")], ledger(ROW, 5)
        parts_of(ROW, edges)
        is_right(ROW, 5, rows)
        self.assertEqual((edges, rows), ([("c", "d"), ("b", "c")], ledger(ROW, 5)))

    def test_changing_an_answer_does_not_change_the_next_one(self):
        for _ in range(2):
            for found, wanted in ((cuts(TWO, 2), [("x", "y")]), (ledger(TWO, 2), [("x", 1, 2), ("y", 0, 1)]),
                                  (parts_of(ONE, []), [ONE]), (cuts(T, 4), [])):
                self.assertEqual(found, wanted)
                found.append("spoiled")


if __name__ == "__main__":
    unittest.main()
