"""Points [32] and [2]: claims that hold, claims that do not, and the judge of both."""

import copy
import itertools
import unittest

from tests.samples import LONG, ONE, T, TWO, families_of, made, slow_all, trees
from treeserved.alike import normal_form, renamed, renaming
from treeserved.centers import branches, center, farthest_pair, medians
from treeserved.courts import (about_center, about_groups, about_loads, about_median, about_parts, about_round,
                               about_stands, about_table, about_trees, judge, judge_all)
from treeserved.errors import RouteError
from treeserved.groups import hit
from treeserved.loads import plan, prices
from treeserved.metrics import four_places, grown, table, table_of
from treeserved.parts import cuts, ledger
from treeserved.routes import round_of, round_reason
from treeserved.stands import stands
from treeserved.trees import names_of, tree

ROW = tree(list(zip("abcde", (3, 1, 4, 1, 5))), [(one, two, 2) for one, two in ("ab", "bc", "cd", "de")])
STAR = tree([(name, 1) for name in "mabc"], [("m", name, 5) for name in "abc"])
BUSH = tree([(name, 1) for name in "abcdefgh"],
            [("a", "b", 1), ("a", "c", 9), ("b", "d", 7), ("b", "e", 2), ("c", "f", 3), ("c", "g", 3), ("e", "h", 4)])
NO_NODES = ("q", "", "A", "ab", "a ", "\n")
FOUR = table([("a", "b", 2), ("a", "c", 6), ("a", "d", 6), ("b", "c", 6), ("b", "d", 6), ("c", "d", 2)])
BROKEN = table([("a", "b", 9), ("a", "c", 5), ("b", "c", 3)])


def loads_of(some_tree, k):
    names = names_of(some_tree)
    first = {names[k % len(names)]: 5}
    second = {names[(3 * k + 1) % len(names)]: 2, names[(5 * k + 2) % len(names)]: 3}
    second = second if len(second) == 2 else {names[(3 * k + 1) % len(names)]: 5}
    return sorted(first.items()), sorted(second.items())


def told(some_tree, k):
    """Claims of all kinds that the about functions tell of a tree."""
    names = names_of(some_tree)
    whole = sum(weight for _, weight in some_tree[0])
    other = renamed(some_tree, {name: "n" + name[:6] for name in names})
    wanted = names[k % 3::2]
    yield about_center(some_tree)
    yield about_median(some_tree)
    yield about_groups(some_tree, families_of(some_tree, 5)[(7 * k) % 31])
    yield about_stands(some_tree, (0, 1, 5, 80, 400, 999, 10 ** 6)[k % 7])
    yield about_table(table_of(some_tree, names[k % 2::2] or names))
    yield about_trees(some_tree, other)
    yield about_round(some_tree, names[(5 * k) % len(names)], wanted)
    yield about_loads(some_tree, *loads_of(some_tree, k))
    yield about_parts(some_tree, whole * (3 + k % 3) // 5)


class Claims(unittest.TestCase):
    def right(self, *claims):
        for claim in claims:
            kept = copy.deepcopy(claim)
            self.assertIs(judge(claim), True, claim)
            self.assertEqual(claim, kept)

    def wrong(self, *claims):
        for claim in claims:
            kept = copy.deepcopy(claim)
            self.assertIs(judge(claim), False, claim)
            self.assertEqual(claim, kept)


def swapped(claim, at, *values):
    """The claim with each of the values in the place of what stands at an index."""
    return [claim[:at] + (value,) + claim[at + 1:] for value in values]


def damaged(rows):
    """Lists with one row left out, or one doubled."""
    for at in range(len(rows)):
        yield rows[:at] + rows[at + 1:]
        yield rows[:at] + [rows[at]] + rows[at:]


class TestAbout(Claims):
    def test_forms(self):
        self.assertEqual(about_center(T), ("center", T, ("edge", "b", "c", (1, 2)), ("a", "c")))
        self.assertEqual(about_median(T), ("median", T, "b", [("a", 1), ("c", 2), ("d", 1)]))
        family = [("a", "b"), ("b", "c"), ("c",), ("d",)]
        self.assertEqual(about_groups(T, family), ("hit", T, family, ["a", "c", "d"], [0, 2, 3]))
        self.assertEqual(about_stands(T, 3), ("stands", T, 3, ["b", "c"], ["c", "d"]))
        self.assertEqual(about_table(FOUR), ("grown", FOUR, grown(FOUR)))
        self.assertEqual(about_table(BROKEN), ("no tree", BROKEN, ("a", "b", "c", "c")))
        other = renamed(T, {"a": "d", "b": "c", "c": "b", "d": "a"})
        self.assertEqual(about_trees(T, other), ("alike", T, other, {"a": "d", "b": "c", "c": "b", "d": "a"}))
        self.assertEqual(about_trees(T, ONE), ("not alike", T, ONE, normal_form(T), ("node", (9, ()))))
        self.assertEqual(about_round(T, "a", ["c"]),
                         ("round", T, "a", ["c"], list("abcba"), [(("a", "b"), "c"), (("b", "c"), "c")]))
        self.assertEqual(about_loads(TWO, [("x", 2)], [("y", 2)]),
                         ("moved", TWO, [("x", 2)], [("y", 2)], [("x", "y", 2)], [("x", 0), ("y", -999)]))
        self.assertEqual(about_parts(TWO, 2), ("parts", TWO, 2, [("x", "y")], [("x", 1, 2), ("y", 0, 1)]))

    def test_they_tell_what_the_other_functions_tell(self):
        for k, some_tree in enumerate(trees()):
            names = names_of(some_tree)
            self.assertEqual(about_center(some_tree)[1:], (some_tree, center(some_tree), farthest_pair(some_tree)))
            name = medians(some_tree)[0]
            self.assertEqual(about_median(some_tree)[1:], (some_tree, name, branches(some_tree, name)))
            family = families_of(some_tree, 4)[k % 20]
            self.assertEqual(about_groups(some_tree, family)[2:], (family, *hit(some_tree, family)))
            self.assertEqual(about_stands(some_tree, 5)[2:], (5, *stands(some_tree, 5)))
            start, wanted = names[k % len(names)], names[::3]
            self.assertEqual(about_round(some_tree, start, wanted)[2:],
                             (start, wanted, round_of(some_tree, start, wanted), round_reason(some_tree, start, wanted)))
            first, second = loads_of(some_tree, k)
            self.assertEqual(about_loads(some_tree, first, second)[2:],
                             (first, second, plan(some_tree, first, second), prices(some_tree, first, second)))
            bound = max(weight for _, weight in some_tree[0]) + k
            self.assertEqual(about_parts(some_tree, bound)[2:], (bound, cuts(some_tree, bound), ledger(some_tree, bound)))

    def test_about_table_tells_of_both_kinds(self):
        kinds = {"grown": 0, "no tree": 0}
        for distances in itertools.product((1, 2, 3), repeat=6):
            pairs = [(*pair, far) for pair, far in zip(itertools.combinations("abcd", 2), distances)]
            claim = about_table(table(pairs))
            kinds[claim[0]] += 1
            self.assertEqual(claim[0] == "no tree", four_places(claim[1]) is not None)
            self.right(claim)
        self.assertGreater(min(kinds.values()), 20)

    def test_about_trees_tells_of_both_kinds(self):
        some_trees = [some_tree for some_tree in trees() if 2 <= len(some_tree[0]) <= 4]
        for one, two in itertools.product(some_trees, repeat=2):
            claim = about_trees(one, two)
            self.assertEqual(claim[0], "not alike" if renaming(one, two) is None else "alike")
            self.right(claim)

    def test_about_parts_of_a_bound_below_the_heaviest_node(self):
        for some_tree in (ONE, TWO, T, LONG, ROW):
            heaviest = max(weight for _, weight in some_tree[0])
            self.assertIsNone(about_parts(some_tree, heaviest - 1))
            self.assertIsNotNone(about_parts(some_tree, heaviest))

    def test_about_loads_with_other_sums(self):
        with self.assertRaises(RouteError) as caught:
            about_loads(T, [("a", 2)], [("b", 1)])
        self.assertEqual(caught.exception.what, "other sum")

    def test_all_that_they_tell_of_many_trees_holds(self):
        for k, some_tree in enumerate(trees()):
            for claim in told(some_tree, k):
                if claim is not None:
                    self.right(claim)

    def test_lists_that_are_passed_are_not_those_of_the_claim(self):
        family, wanted, first, second = [("a", "b")], ["c"], [("a", 1)], [("c", 1)]
        claims = [about_groups(T, family), about_round(T, "a", wanted), about_loads(T, first, second)]
        for rows in (claims[0][2], claims[1][3], claims[2][2], claims[2][3]):
            rows.clear()
        self.assertEqual((family, wanted, first, second), ([("a", "b")], ["c"], [("a", 1)], [("c", 1)]))

    def test_changing_a_claim_does_not_change_the_next_one(self):
        for make, wanted in ((lambda: about_median(TWO), ("median", TWO, "x", [("y", 1)])),
                             (lambda: about_stands(TWO, 0), ("stands", TWO, 0, ["x", "y"], ["x", "y"])),
                             (lambda: about_trees(ONE, ONE), ("alike", ONE, ONE, {"only": "only"}))):
            for _ in range(2):
                claim = make()
                self.assertEqual(claim, wanted)
                claim[3].clear()


class TestCenter(Claims):
    CLAIM = about_center(T)

    def test_right_claims(self):
        self.right(self.CLAIM, *swapped(self.CLAIM, 3, ("c", "a")))
        self.right(("center", STAR, ("node", "m"), ("b", "c")), ("center", STAR, ("node", "m"), ("c", "a")))
        self.right(("center", ONE, ("node", "only"), ("only", "only")))

    def test_another_pair(self):
        self.wrong(*swapped(self.CLAIM, 3, ("a", "d"), ("a", "a"), ("c", "d"), ("b", "c")))
        self.wrong(*swapped(self.CLAIM, 3, (), ("a",), ("a", "c", "c"), ("a", "c", "a")))
        for name in NO_NODES:
            self.wrong(*swapped(self.CLAIM, 3, ("a", name), (name, "c"), (name, name)))

    def test_another_place(self):
        self.wrong(*swapped(self.CLAIM, 2, ("node", "b"), ("node", "c"), ("edge", "b", "c", (1, 3)),
                            ("edge", "b", "c", (7, 2)), ("edge", "a", "b", (1, 2)), ("edge", "b", "d", (1, 2))))

    def test_places_that_the_tree_has_not(self):
        for name in NO_NODES:
            self.wrong(*swapped(self.CLAIM, 2, ("node", name), ("edge", name, "c", (1, 2)), ("edge", "b", name, (1, 2))))
        self.wrong(*swapped(self.CLAIM, 2, ("edge", "c", "b", (7, 2)), ("edge", "a", "c", (7, 2)),
                            ("edge", "a", "c", (1, 2)), ("edge", "b", "b", (1, 2))))
        # Offsets that lie on no edge, or that are not in lowest terms.
        some_tree = tree([("a", 0), ("b", 0)], [("a", "b", 4)])
        self.right(("center", some_tree, ("edge", "a", "b", (2, 1)), ("a", "b")))
        for offset in ((0, 1), (4, 1), (5, 1), (-2, 1), (4, 2), (2, -1), (-2, -1), (2, 0), (0, 0), (1, 1)):
            self.wrong(("center", some_tree, ("edge", "a", "b", offset), ("a", "b")))
        self.wrong(("center", T, ("edge", "b", "c", (2, 4)), ("a", "c")))

    def test_nodes_told_as_points_of_their_edges(self):
        # They are in the middle, but a point of an edge is no end of it.
        for edge in ("am", "bm", "cm"):
            self.wrong(("center", STAR, ("edge", *edge, (5, 1)), ("a", "b")))
        some_tree = tree([(name, 1) for name in "abc"], [("a", "b", 5), ("a", "c", 5)])
        self.right(("center", some_tree, ("node", "a"), ("b", "c")))
        self.wrong(("center", some_tree, ("edge", "a", "b", (0, 1)), ("b", "c")))

    def test_another_tree(self):
        self.wrong(*swapped(self.CLAIM, 1, ONE, TWO, LONG, STAR))

    def test_all_pairs_and_places(self):
        for some_tree in (TWO, T, STAR, LONG):
            far = slow_all(some_tree)
            names = names_of(some_tree)
            for name in names:
                for pair in itertools.product(names, repeat=2):
                    wanted = 2 * max(far[name].values()) == far[pair[0]][pair[1]]
                    self.assertIs(judge(("center", some_tree, ("node", name), pair)), wanted)


class TestMedian(Claims):
    CLAIM = about_median(T)

    def test_right_claims(self):
        self.right(self.CLAIM, ("median", T, "c", [("b", 2)]), ("median", ONE, "only", []))

    def test_nodes_that_are_no_medians(self):
        self.wrong(("median", T, "a", [("b", 3)]), ("median", T, "d", [("b", 3)]), ("median", TWO, "y", [("x", 2)]))

    def test_wrong_branches(self):
        rows = self.CLAIM[3]
        self.wrong(*swapped(self.CLAIM, 3, [], *damaged(rows), rows[::-1]))
        for at, (name, weight) in enumerate(rows):
            for row in ((name, weight + 1), (name, weight - 1), ("q", weight), ("b", weight)):
                self.wrong(*swapped(self.CLAIM, 3, rows[:at] + [row] + rows[at + 1:]))

    def test_strings_that_are_no_nodes(self):
        for name in NO_NODES:
            self.wrong(("median", T, name, []), ("median", ONE, name, []), *swapped(self.CLAIM, 2, name))

    def test_another_node_or_tree(self):
        self.wrong(*swapped(self.CLAIM, 2, "a", "c", "d"), *swapped(self.CLAIM, 1, ONE, TWO, STAR, LONG))


class TestHit(Claims):
    FAMILY = [("a", "b"), ("b", "c"), ("c",), ("d",)]
    CLAIM = about_groups(T, FAMILY)

    def test_right_claims(self):
        self.right(self.CLAIM, ("hit", T, [], [], []))
        self.right(*swapped(self.CLAIM, 3, ["d", "c", "a"], ["b", "c", "d"]), *swapped(self.CLAIM, 4, [3, 0, 2]))

    def test_other_names(self):
        names = self.CLAIM[3]
        self.wrong(*swapped(self.CLAIM, 3, [], *damaged(names), ["a", "b", "c"], ["a", "b", "d"], ["a", "b", "c", "d"]))
        for name in NO_NODES:
            for at in range(3):
                self.wrong(*swapped(self.CLAIM, 3, names[:at] + [name] + names[at + 1:], names + [name]))

    def test_other_indices(self):
        self.wrong(*swapped(self.CLAIM, 4, [], *damaged([0, 2, 3]), [0, 1, 3], [1, 2, 3], [0, 2, 4], [-1, 0, 2], [0, 1, 2, 3]))

    def test_another_family(self):
        self.wrong(*swapped(self.CLAIM, 2, [], self.FAMILY[:3], self.FAMILY[::-1], self.FAMILY + [("b",)]))
        self.wrong(("hit", T, [("a",)], [], []), ("hit", T, [], ["a"], []))

    def test_a_name_that_is_there_twice_is_counted_twice(self):
        self.right(("hit", T, [("a", "b")], ["b"], [0]))
        self.wrong(("hit", T, [("a", "b")], ["b", "b"], [0]), ("hit", T, [("a", "b")], ["b", "b"], [0, 0]))


class TestStands(Claims):
    CLAIM = about_stands(ROW, 2)

    def test_right_claims(self):
        self.right(self.CLAIM, *swapped(self.CLAIM, 3, ["b", "e"], ["d", "b"]), *swapped(self.CLAIM, 4, ["e", "b"]))
        self.right(("stands", ONE, 0, ["only"], ["only"]))

    def test_other_names(self):
        self.wrong(*swapped(self.CLAIM, 3, [], *damaged(["a", "d"]), ["a", "e"], ["a", "c"], ["b", "d", "e"]))
        for name in NO_NODES:
            self.wrong(*swapped(self.CLAIM, 3, ["a", name], [name, "d"], ["a", "d", name]))

    def test_other_witnesses(self):
        self.wrong(*swapped(self.CLAIM, 4, [], *damaged(["a", "e"]), ["a", "c"], ["a", "b"], ["b", "d"], ["a", "d", "e"]))
        for name in NO_NODES:
            self.wrong(*swapped(self.CLAIM, 4, ["a", name], [name, "e"], ["a", "e", name]))

    def test_other_distances(self):
        for far, holds in ((0, False), (1, False), (2, True), (3, True), (4, False), (8, False)):
            self.assertIs(judge(("stands", ROW, far, ["a", "d"], ["a", "e"])), holds)

    def test_another_tree(self):
        self.wrong(*swapped(self.CLAIM, 1, ONE, TWO, STAR, LONG))


class TestGrown(Claims):
    CLAIM = about_table(FOUR)

    def test_right_claims(self):
        self.right(self.CLAIM)
        # Hidden nodes may have any names, and there may be more of them.
        some_tree = renamed(self.CLAIM[2], {"a": "a", "b": "b", "c": "c", "d": "d", "h1": "z", "h2": "y"})
        self.right(*swapped(self.CLAIM, 2, some_tree))
        nodes, edges = self.CLAIM[2]
        self.right(*swapped(self.CLAIM, 2, (nodes + (("z", 7),), edges + (("h2", "z", 1),))))

    def test_a_length_changed(self):
        nodes, edges = self.CLAIM[2]
        for at, (one, two, length) in enumerate(edges):
            for other in (length + 1, length - 1, 2 * length):
                changed = edges[:at] + ((one, two, other),) + edges[at + 1:]
                self.wrong(*swapped(self.CLAIM, 2, (nodes, changed)))

    def test_a_name_that_the_tree_has_not(self):
        for name in "abcd":
            names = {**{other: other for other in names_of(self.CLAIM[2])}, name: "z"}
            self.wrong(*swapped(self.CLAIM, 2, renamed(self.CLAIM[2], names)))

    def test_names_exchanged(self):
        names = {**{other: other for other in names_of(self.CLAIM[2])}, "a": "c", "c": "a"}
        self.wrong(*swapped(self.CLAIM, 2, renamed(self.CLAIM[2], names)))
        # The lengths stay right if both names of one hidden node are exchanged.
        names = {**{other: other for other in names_of(self.CLAIM[2])}, "a": "b", "b": "a"}
        self.right(*swapped(self.CLAIM, 2, renamed(self.CLAIM[2], names)))

    def test_other_trees_and_tables(self):
        self.wrong(*swapped(self.CLAIM, 2, ONE, TWO, T, STAR, LONG), *swapped(self.CLAIM, 1, BROKEN))

    def test_the_tree_itself_has_not_twice_the_distances(self):
        self.wrong(("grown", table_of(T, list("abcd")), T))


class TestNoTree(Claims):
    CLAIM = about_table(BROKEN)

    def test_right_claims(self):
        self.right(self.CLAIM)
        for names in set(itertools.permutations("abcc")):
            self.right(*swapped(self.CLAIM, 2, names))

    def test_other_names(self):
        for names in itertools.product("abc", repeat=4):
            self.assertIs(judge(("no tree", BROKEN, names)), sorted(names) == list("abcc"))

    def test_not_four_names(self):
        self.wrong(*swapped(self.CLAIM, 2, (), ("a",), ("a", "b", "c"), ("a", "b", "c", "c", "c")))

    def test_strings_that_are_no_names_of_the_table(self):
        for name in NO_NODES + ("d",):
            self.wrong(*swapped(self.CLAIM, 2, (name, "b", "c", "c"), ("a", name, "c", "c"), ("a", "b", "c", name)))

    def test_another_table(self):
        self.wrong(*swapped(self.CLAIM, 1, FOUR, table_of(T, list("abc")), table([("x", "y", 1)])))


class TestAlike(Claims):
    OTHER = renamed(T, {"a": "w", "b": "x", "c": "y", "d": "z"})
    CLAIM = about_trees(T, OTHER)

    def test_right_claims(self):
        self.right(self.CLAIM, about_trees(self.OTHER, T), about_trees(T, T))
        self.right(("alike", STAR, STAR, {"a": "b", "b": "c", "c": "a", "m": "m"}))

    def test_wrong_dicts(self):
        names = self.CLAIM[3]
        self.wrong(*swapped(self.CLAIM, 3, {}, {"a": "x", "b": "w", "c": "y", "d": "z"}, {**names, "e": "v"}))
        for name in "abcd":
            self.wrong(*swapped(self.CLAIM, 3, {key: names[key] for key in names if key != name}))
            for new in NO_NODES + ("wxyz"[(ord(name) - ord("a") + 1) % 4],):
                self.wrong(*swapped(self.CLAIM, 3, {**names, name: new}))

    def test_trees_exchanged_or_others(self):
        self.wrong(("alike", self.OTHER, T, self.CLAIM[3]), *swapped(self.CLAIM, 1, STAR, ONE))
        self.wrong(*swapped(self.CLAIM, 2, STAR, ONE, T))

    def test_not_alike(self):
        claim = about_trees(T, STAR)
        self.right(claim, ("not alike", STAR, T, claim[4], claim[3]))
        self.wrong(("not alike", STAR, T, claim[3], claim[4]), ("not alike", T, STAR, claim[4], claim[3]))
        self.wrong(*swapped(claim, 3, claim[4], (), ("node", (0, ()))), *swapped(claim, 4, claim[3], ()))
        self.wrong(*swapped(claim, 1, STAR, ONE), *swapped(claim, 2, T, ONE))

    def test_not_alike_of_trees_that_are_alike(self):
        form = normal_form(T)
        self.wrong(("not alike", T, self.OTHER, form, form), ("not alike", T, T, form, form))
        self.wrong(("not alike", T, T, form, normal_form(STAR)))


class TestRound(Claims):
    CLAIM = about_round(BUSH, "a", ["h", "g"])

    def test_right_claims(self):
        self.right(self.CLAIM, *swapped(self.CLAIM, 3, ["g", "h"]), ("round", ONE, "only", [], ["only"], []))
        self.right(about_round(BUSH, "a", []), about_round(BUSH, "a", ["a"]))
        # Another walk of the same length, and the reason in another order.
        self.right(*swapped(self.CLAIM, 4, list("acgcabeheba")), *swapped(self.CLAIM, 5, self.CLAIM[5][::-1]))

    def test_any_wanted_node_beyond_the_edge(self):
        claim = about_round(BUSH, "a", ["d", "h"])
        self.assertEqual(claim[5][0], (("a", "b"), "d"))
        self.right(*swapped(claim, 5, [(("a", "b"), "h")] + claim[5][1:]))

    def test_other_walks(self):
        walk = self.CLAIM[4]
        self.assertEqual(walk, list("abehebacgca"))
        self.wrong(*swapped(self.CLAIM, 4, [], ["a"], *damaged(walk), walk + ["b", "a"], walk[1:], walk[:-1]))
        # From another start, or to another end.
        self.wrong(*swapped(self.CLAIM, 4, list("behebacgcab"), list("abehebacgc")))
        for at in range(len(walk)):
            for name in NO_NODES + ("a", "d"):
                if name != walk[at]:
                    self.wrong(*swapped(self.CLAIM, 4, walk[:at] + [name] + walk[at + 1:]))

    def test_a_walk_as_long_that_comes_not_through_all(self):
        # d is not wanted, and to d it is as far as from a to b and on to e and h.
        some_tree = tree([(name, 1) for name in "abc"], [("a", "b", 5), ("a", "c", 5)])
        claim = about_round(some_tree, "a", ["b"])
        self.wrong(*swapped(claim, 4, ["a", "c", "a"]))
        self.wrong(*swapped(claim, 3, ["c"]), *swapped(claim, 3, ["b", "c"]))

    def test_a_walk_that_starts_or_ends_elsewhere(self):
        some_tree = tree([(name, 1) for name in "abc"], [("a", "b", 5), ("b", "c", 5)])
        claim = about_round(some_tree, "b", ["a"])
        self.right(claim)
        self.wrong(*swapped(claim, 4, ["b", "a", "b", "c"], ["a", "b", "a"], ["c", "b", "a"], ["b", "c", "b"]))
        self.wrong(*swapped(claim, 2, "a", "c", "q", ""))

    def test_a_walk_that_is_shorter_since_it_is_no_round(self):
        # A trip through b and c is as long as the reason says, which need not have all needed edges.
        some_tree = tree([(name, 1) for name in "abc"], [("a", "b", 10), ("a", "c", 5)])
        for walk in ("baca", "acab", "bab", "abaca"):
            self.wrong(("round", some_tree, "a", ["b", "c"], list(walk), [(("a", "b"), "b")]))
        self.right(("round", some_tree, "a", ["b"], list("aba"), [(("a", "b"), "b")]))

    def test_other_wanted_nodes(self):
        self.wrong(*swapped(self.CLAIM, 3, ["h"], ["g"], ["d", "g", "h"], [], ["h", "f"]))
        for name in NO_NODES:
            self.wrong(*swapped(self.CLAIM, 3, ["h", "g", name], [name, "g"]))

    def test_more_wanted_nodes_on_the_walk(self):
        self.right(*swapped(self.CLAIM, 3, ["h", "g", "e", "a"]))

    def test_other_reasons(self):
        reason = self.CLAIM[5]
        self.assertEqual(reason, [(("a", "b"), "h"), (("a", "c"), "g"), (("b", "e"), "h"), (("c", "g"), "g"),
                                  (("e", "h"), "h")])
        self.wrong(*swapped(self.CLAIM, 5, [], *damaged(reason), reason + [(("b", "d"), "h")]))
        for at, (edge, name) in enumerate(reason):
            for pair in ((edge[::-1], name), (edge, "d"), (edge, "b"), (edge, "gh"["hg".index(name)]), (edge, "q"),
                         (edge, ""), (("q", "r"), name), (("a", "h"), name), (("b", "d"), name), (("c", "f"), name)):
                self.wrong(*swapped(self.CLAIM, 5, reason[:at] + [pair] + reason[at + 1:]))

    def test_an_edge_twice_in_the_place_of_another_as_long(self):
        some_tree = tree([(name, 1) for name in "abc"], [("a", "b", 5), ("a", "c", 5)])
        claim = about_round(some_tree, "a", ["b", "c"])
        self.wrong(*swapped(claim, 5, [(("a", "b"), "b"), (("a", "b"), "b")]))

    def test_a_node_that_is_not_beyond_its_edge(self):
        some_tree = tree([(name, 1) for name in "abc"], [("a", "b", 5), ("a", "c", 5)])
        claim = about_round(some_tree, "a", ["b", "c"])
        self.wrong(*swapped(claim, 5, [(("a", "b"), "c"), (("a", "c"), "b")], [(("a", "b"), "b"), (("a", "c"), "b")]))
        # The start itself is wanted, but beyond no edge.
        claim = about_round(some_tree, "a", ["a", "b"])
        self.wrong(*swapped(claim, 5, [(("a", "b"), "a")]))

    def test_another_tree(self):
        self.wrong(*swapped(self.CLAIM, 1, ONE, TWO, STAR, LONG))


class TestMoved(Claims):
    CLAIM = about_loads(T, [("c", 3)], [("a", 2), ("d", 1)])

    def test_right_claims(self):
        self.assertEqual(self.CLAIM[4:], ([("c", "a", 2), ("c", "d", 1)], [("a", 0), ("b", 3), ("c", 7), ("d", 1)]))
        self.right(self.CLAIM, ("moved", ONE, [], [], [], [("only", 0)]), about_loads(ONE, [("only", 9)], [("only", 9)]))
        # In another order, by way of a node, and unit by unit; prices may begin anywhere.
        self.right(*swapped(self.CLAIM, 4, [("c", "d", 1), ("c", "a", 2)], [("c", "b", 3), ("b", "a", 2), ("b", "d", 1)],
                            [("b", "a", 2), ("c", "b", 3), ("b", "d", 1)], [("c", "a", 1)] * 2 + [("c", "d", 1)]))
        self.right(*swapped(self.CLAIM, 5, [("a", 5), ("b", 8), ("c", 12), ("d", 6)],
                            [("a", -7), ("b", -4), ("c", 0), ("d", -6)]))

    def test_other_plans(self):
        moves = self.CLAIM[4]
        self.wrong(*swapped(self.CLAIM, 4, [], *damaged(moves), [("a", "c", 2), ("d", "c", 1)]))
        for at, (one, two, number) in enumerate(moves):
            for row in ((one, two, number + 1), (one, two, number - 1), (one, two, -number), (two, one, number),
                        (one, "b", number), ("b", two, number), (one, "q", number), ("q", two, number), ("", "", 1)):
                self.wrong(*swapped(self.CLAIM, 4, moves[:at] + [row] + moves[at + 1:]))

    def test_numbers_that_are_not_greater_than_zero(self):
        moves = self.CLAIM[4]
        self.wrong(*swapped(self.CLAIM, 4, moves + [("a", "b", 0)], [("a", "c", -2), ("c", "d", 1)],
                            moves + [("a", "a", -1)], moves + [("a", "b", 1), ("a", "b", -1)]))

    def test_strings_that_are_no_nodes(self):
        moves = self.CLAIM[4]
        for name in NO_NODES:
            self.wrong(*swapped(self.CLAIM, 4, moves + [(name, name, 1)], moves + [(name, "a", 1)], moves + [("a", name, 1)]))
            self.wrong(*swapped(self.CLAIM, 2, [(name, 3)], [("c", 3), (name, 1)]), *swapped(self.CLAIM, 3, [(name, 3)]))
            self.wrong(*swapped(self.CLAIM, 5, self.CLAIM[5][:3] + [(name, 1)], self.CLAIM[5] + [(name, 0)]))

    def test_a_plan_that_costs_more(self):
        # There and back again: everything arrives, but the prices do not tell so much.
        self.wrong(*swapped(self.CLAIM, 4, self.CLAIM[4] + [("a", "b", 1), ("b", "a", 1)]))
        claim = about_loads(ROW, [("a", 1), ("d", 1)], [("b", 1), ("e", 1)])
        self.wrong(*swapped(claim, 4, [("a", "e", 1), ("d", "b", 1)]))

    def test_other_prices(self):
        rows = self.CLAIM[5]
        self.wrong(*swapped(self.CLAIM, 5, [], *damaged(rows), rows[::-1], [(name, 0) for name in "abcd"]))
        for at, (name, price) in enumerate(rows):
            for row in ((name, price + 1), (name, price - 1), ("q", price), ("b" if name == "a" else "a", price)):
                self.wrong(*swapped(self.CLAIM, 5, rows[:at] + [row] + rows[at + 1:]))

    def test_prices_that_are_not_fair(self):
        # They tell the cost of a plan that is no cheap one.
        claim = about_loads(ROW, [("a", 1)], [("b", 1)])
        self.assertEqual(claim[4:], ([("a", "b", 1)], [("a", 0), ("b", -2), ("c", -2), ("d", -2), ("e", -2)]))
        dear = [("a", "c", 1), ("c", "b", 1)]
        unfair = [("a", 0), ("b", -6), ("c", -6), ("d", -6), ("e", -6)]
        self.wrong(("moved", ROW, [("a", 1)], [("b", 1)], dear, unfair))
        # An edge that the moves do not touch must be fair as well.
        self.wrong(*swapped(claim, 5, [("a", 0), ("b", -2), ("c", -2), ("d", 1), ("e", 1)]))
        self.right(*swapped(claim, 5, [("a", 0), ("b", -2), ("c", -2), ("d", 0), ("e", 2)]))

    def test_other_loads(self):
        self.wrong(*swapped(self.CLAIM, 2, [], [("c", 2)], [("c", 4)], [("b", 3)], [("c", 3), ("d", 1)]))
        self.wrong(*swapped(self.CLAIM, 3, [], [("a", 2)], [("a", 1), ("d", 2)], [("a", 2), ("d", 2)]))
        self.wrong(("moved", T, self.CLAIM[3], self.CLAIM[2], *self.CLAIM[4:]))

    def test_another_tree(self):
        self.wrong(*swapped(self.CLAIM, 1, ONE, TWO, STAR, LONG))


class TestParts(Claims):
    CLAIM = about_parts(ROW, 5)

    def test_right_claims(self):
        self.assertEqual(self.CLAIM[3], [("b", "c"), ("d", "e")])
        self.right(self.CLAIM, *swapped(self.CLAIM, 3, [("d", "e"), ("b", "c")]))
        self.right(about_parts(ONE, 9), about_parts(ROW, 14), about_parts(ROW, 1000))

    def test_any_cuts_that_are_as_few(self):
        claim = about_parts(ROW, 6)
        self.assertEqual(claim[3], [("a", "b"), ("c", "d")])
        self.right(*swapped(claim, 3, [("b", "c"), ("c", "d")], [("b", "c"), ("d", "e")]))

    def test_other_cuts(self):
        edges = self.CLAIM[3]
        self.wrong(*swapped(self.CLAIM, 3, [], *damaged(edges), [("a", "b"), ("c", "d")], edges + [("a", "b")]))
        for at in range(2):
            for pair in (edges[at][::-1], ("a", "c"), ("q", "r"), ("b", "q"), ("", ""), edges[1 - at], ("c", "d")):
                self.wrong(*swapped(self.CLAIM, 3, edges[:at] + [pair] + edges[at + 1:]))

    def test_cuts_that_leave_too_heavy_parts(self):
        for chosen in itertools.combinations([edge[:2] for edge in ROW[1]], 2):
            self.assertIs(judge(("parts", ROW, 5, list(chosen), self.CLAIM[4])), list(chosen) == self.CLAIM[3])

    def test_other_ledgers(self):
        rows = self.CLAIM[4]
        self.wrong(*swapped(self.CLAIM, 4, [], *damaged(rows), rows[::-1], ledger(ROW, 6), ledger(ROW, 14)))
        for at, (name, count, held) in enumerate(rows):
            for row in ((name, count + 1, held), (name, count - 1, held), (name, count, held + 1), ("q", count, held)):
                self.wrong(*swapped(self.CLAIM, 4, rows[:at] + [row] + rows[at + 1:]))

    def test_more_cuts_than_the_ledger_has(self):
        claim = about_parts(ROW, 14)
        self.wrong(*swapped(claim, 3, [("a", "b")], [("b", "c"), ("d", "e")]))

    def test_another_bound_or_tree(self):
        self.wrong(*swapped(self.CLAIM, 2, -1, 0, 4, 6, 14, 1000), *swapped(self.CLAIM, 1, ONE, TWO, T, LONG))


class TestJudge(Claims):
    def test_claims_about_other_trees_mostly_do_not_hold(self):
        for k, some_tree in enumerate(trees()[10:60:7]):
            for claim in told(some_tree, k):
                if claim is not None and claim[0] not in ("hit", "grown"):
                    self.wrong(*swapped(claim, 1, ONE if claim[0] != "no tree" else FOUR))

    def test_words_that_no_claim_has(self):
        self.wrong(("", T), ("middle", T, ("node", "b"), ("a", "c")))

    def test_all_of_several(self):
        right = [about_center(T), about_median(LONG), about_stands(ROW, 2), about_parts(ROW, 5), about_table(BROKEN)]
        wrong = [about_center(T)[:3] + (("a", "d"),), about_stands(ROW, 2)[:3] + (["a"], ["a"]),
                 about_parts(ROW, 5)[:3] + ([], [])]
        self.assertEqual(judge_all([]), [])
        self.assertEqual(judge_all(right), [])
        self.assertEqual(judge_all(wrong), [0, 1, 2])
        self.assertEqual(judge_all([right[0], wrong[0], right[1], right[2], wrong[1], wrong[2], right[3]]), [1, 4, 5])

    def test_claims_that_are_passed_stay_as_they_are(self):
        claims = [claim for claim in told(made([k // 2 for k in range(11)]), 3) if claim is not None]
        kept = copy.deepcopy(claims)
        found = judge_all(claims)
        found.append(99)
        self.assertEqual((claims, judge_all(claims)), (kept, []))


if __name__ == "__main__":
    unittest.main()
