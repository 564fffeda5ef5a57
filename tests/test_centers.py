"""Points [8], [9] and [2]: the farthest pair, the center and the radius, medians and branches, and their papers."""

import itertools
import unittest
from fractions import Fraction

from tests.samples import LONG, ONE, T, TWO, slow_distance, slow_far, slow_path, spots, told, trees
from treeserved.centers import branches, center, farthest_pair, is_median, medians, radius, shows_radius
from treeserved.places import load, place_on, reach
from treeserved.trees import names_of, tree, weight_of

STAR = tree([(name, 1) for name in "abcd"], [("d", "a", 5), ("d", "b", 5), ("d", "c", 5)])
EMPTY = tree([(name, 0) for name in "abcde"], [("a", "c", 5), ("c", "b", 2), ("b", "e", 7), ("c", "d", 1)])


def grown_star(weights):
    """A star with the middle m and a leaf for each further weight."""
    names = ["m"] + ["abcdefghijk"[k] for k in range(len(weights) - 1)]
    return tree(list(zip(names, weights)), [("m", name, k + 1) for k, name in enumerate(names[1:])])


class TestFarthestPair(unittest.TestCase):
    def test_just_one_pair(self):
        self.assertEqual(farthest_pair(T), ("a", "c"))
        self.assertEqual(farthest_pair(TWO), ("x", "y"))
        self.assertEqual(farthest_pair(LONG), ("c", "d"))

    def test_a_single_node(self):
        self.assertEqual(farthest_pair(ONE), ("only", "only"))

    def test_the_first_of_several(self):
        self.assertEqual(farthest_pair(STAR), ("a", "b"))
        some_tree = tree([(name, 1) for name in "abcdz"], [("z", "b", 5), ("z", "c", 5), ("z", "d", 5), ("z", "a", 4)])
        self.assertEqual(farthest_pair(some_tree), ("b", "c"))
        some_tree = tree([(name, 1) for name in "abcdz"], [("z", "b", 4), ("z", "c", 6), ("z", "d", 6), ("z", "a", 6)])
        self.assertEqual(farthest_pair(some_tree), ("a", "c"))

    def test_the_lesser_name_is_the_first_one(self):
        some_tree = tree([("c", 1), ("b", 1), ("a", 1)], [("b", "a", 1), ("a", "c", 1)])
        self.assertEqual(farthest_pair(some_tree), ("b", "c"))

    def test_edges_do_not_count_but_lengths(self):
        some_tree = tree([(name, 1) for name in "abcde"], [("a", "b", 1), ("b", "c", 1), ("c", "d", 1), ("b", "e", 9)])
        self.assertEqual(farthest_pair(some_tree), ("d", "e"))

    def test_many_trees(self):
        for some_tree in trees():
            pairs = itertools.combinations_with_replacement(names_of(some_tree), 2)
            wanted = min((-slow_distance(some_tree, *pair), pair) for pair in pairs)[1]
            self.assertEqual(farthest_pair(some_tree), wanted)


class TestCenter(unittest.TestCase):
    def test_at_a_node(self):
        self.assertEqual((center(STAR), radius(STAR)), (("node", "d"), (5, 1)))
        self.assertEqual((center(ONE), radius(ONE)), (("node", "only"), (0, 1)))

    def test_at_a_node_that_halves_an_odd_number_of_edges(self):
        some_tree = tree([(name, 0) for name in "abcd"], [("a", "b", 1), ("b", "c", 2), ("c", "d", 3)])
        self.assertEqual((center(some_tree), radius(some_tree)), (("node", "c"), (3, 1)))

    def test_inside_an_edge_with_a_half_offset(self):
        self.assertEqual((center(T), radius(T)), (("edge", "b", "c", (1, 2)), (7, 2)))
        self.assertEqual((center(TWO), radius(TWO)), (("edge", "x", "y", (999, 2)), (999, 2)))
        self.assertEqual((center(LONG), radius(LONG)), (("edge", "b", "d", (1, 2)), (15, 2)))

    def test_inside_an_edge_with_a_whole_offset(self):
        some_tree = tree([("a", 0), ("b", 0), ("c", 0)], [("b", "a", 1), ("b", "c", 5)])
        self.assertEqual((center(some_tree), radius(some_tree)), (("edge", "b", "c", (2, 1)), (3, 1)))
        some_tree = tree([("a", 0), ("b", 0)], [("b", "a", 4)])
        self.assertEqual((center(some_tree), radius(some_tree)), (("edge", "a", "b", (2, 1)), (2, 1)))

    def test_the_offset_is_from_the_lesser_name(self):
        some_tree = tree([("a", 0), ("z", 0), ("b", 0)], [("a", "z", 1), ("z", "b", 5)])
        self.assertEqual((center(some_tree), radius(some_tree)), (("edge", "b", "z", (3, 1)), (3, 1)))

    def test_weights_do_not_count(self):
        for weights in ((0, 0, 0), (999, 0, 0), (0, 1, 999)):
            some_tree = tree(list(zip("abc", weights)), [("a", "b", 1), ("b", "c", 5)])
            self.assertEqual(center(some_tree), ("edge", "b", "c", (2, 1)))

    def test_many_trees(self):
        for some_tree in trees():
            names = names_of(some_tree)
            half = Fraction(max(slow_distance(some_tree, *pair) for pair in itertools.product(names, repeat=2)), 2)
            self.assertEqual(radius(some_tree), told(half))
            middle = center(some_tree)
            places = list(dict.fromkeys(spots(some_tree, 4) + [middle]))
            far = slow_far(some_tree, places)
            reaches = {place: max(far[place]["node", name] for name in names) for place in places}
            self.assertEqual(reaches.pop(middle), half)
            self.assertTrue(all(found > half for found in reaches.values()))
            self.assertEqual(reach(some_tree, middle), told(half))

    def test_places_just_beside_the_center_reach_farther(self):
        for some_tree in trees():
            first, second = farthest_pair(some_tree)
            half = Fraction(*radius(some_tree))
            self.assertEqual(place_on(some_tree, first, second, told(half)), center(some_tree))
            if half:
                for aside in (Fraction(1, 1000), Fraction(-1, 1000)):
                    place = place_on(some_tree, first, second, told(half + aside))
                    self.assertEqual(reach(some_tree, place), told(half + Fraction(1, 1000)))


class TestShowsRadius(unittest.TestCase):
    def shown(self, some_tree, pair, half):
        """Check a pair with half of its distance, and with numbers that are a little less and greater."""
        little = Fraction(1, 10 ** 6)
        for aside, wanted in ((0, True), (-little, True), (little, False), (-half, True), (1, False)):
            self.assertIs(shows_radius(some_tree, pair, told(Fraction(half + aside))), wanted, (pair, aside))

    def test_pairs_of_nodes(self):
        self.shown(T, ("a", "c"), Fraction(7, 2))
        self.shown(T, ("c", "a"), Fraction(7, 2))
        self.shown(T, ("b", "d"), Fraction(1))
        self.shown(LONG, ("d", "e"), Fraction(6))
        self.shown(TWO, ("y", "x"), Fraction(999, 2))

    def test_a_node_and_itself(self):
        self.shown(T, ("b", "b"), Fraction(0))
        self.shown(ONE, ("only", "only"), Fraction(0))

    def test_all_pairs_of_nodes(self):
        for some_tree in trees()[:30]:
            for pair in itertools.product(names_of(some_tree), repeat=2):
                self.shown(some_tree, pair, Fraction(slow_distance(some_tree, *pair), 2))

    def test_other_strings(self):
        for pair in (("q", "r"), ("", ""), ("q", "q"), ("A", "node"), ("a c", "\n")):
            for least in ((0, 1), (1, 2), (7, 2)):
                self.assertIs(shows_radius(T, pair, least), False)

    def test_a_node_and_another_string(self):
        for other in ("q", "", "A", "aa", "a "):
            for name in "abcd":
                for least in ((0, 1), (1, 2), (7, 2)):
                    self.assertIs(shows_radius(T, (name, other), least), False)
                    self.assertIs(shows_radius(T, (other, name), least), False)

    def test_the_farthest_pair_shows_the_radius(self):
        for some_tree in trees():
            self.assertIs(shows_radius(some_tree, farthest_pair(some_tree), radius(some_tree)), True)


class TestMedians(unittest.TestCase):
    def test_one_median(self):
        self.assertEqual(medians(ONE), ["only"])
        self.assertEqual(medians(TWO), ["x"])
        self.assertEqual(medians(LONG), ["e"])
        self.assertEqual(medians(STAR), ["d"])

    def test_several_medians(self):
        self.assertEqual(medians(T), ["b", "c"])
        self.assertEqual(medians(tree([("a", 3), ("b", 0), ("c", 0), ("d", 3)],
                                      [("d", "c", 4), ("c", "b", 1), ("b", "a", 9)])), ["a", "b", "c", "d"])
        self.assertEqual(medians(tree([("a", 3), ("b", 0), ("c", 0), ("d", 3)],
                                      [("d", "a", 4), ("c", "b", 1), ("b", "a", 9)])), ["a", "d"])

    def test_weights_of_zero(self):
        self.assertEqual(medians(EMPTY), ["a", "b", "c", "d", "e"])
        self.assertEqual(medians(tree([("a", 0)], [])), ["a"])
        self.assertEqual(medians(tree([("a", 0), ("b", 0)], [("a", "b", 1)])), ["a", "b"])

    def test_lengths_do_not_count(self):
        for first, second in itertools.product((1, 500, 999), repeat=2):
            some_tree = tree([("a", 4), ("b", 2), ("c", 3)], [("a", "b", first), ("b", "c", second)])
            self.assertEqual(medians(some_tree), ["b"])

    def test_many_trees(self):
        for some_tree in trees() + [EMPTY]:
            loads = {name: sum(weight * slow_distance(some_tree, name, other) for other, weight in some_tree[0])
                     for name in names_of(some_tree)}
            wanted = [name for name in loads if loads[name] == min(loads.values())]
            self.assertEqual(medians(some_tree), sorted(wanted))
            self.assertEqual([name for name in loads if is_median(some_tree, name)], wanted)

    def test_no_place_has_a_lesser_load(self):
        for some_tree in trees():
            least = load(some_tree, ("node", medians(some_tree)[0]))
            self.assertEqual(min(Fraction(*load(some_tree, place)) for place in spots(some_tree, 3)), least[0])


class TestBranches(unittest.TestCase):
    def test_leaves(self):
        self.assertEqual(branches(T, "a"), [("b", 3)])
        self.assertEqual(branches(T, "c"), [("b", 2)])
        self.assertEqual(branches(TWO, "x"), [("y", 1)])
        self.assertEqual(branches(LONG, "d"), [("b", 7)])

    def test_many_neighbors(self):
        self.assertEqual(branches(T, "b"), [("a", 1), ("c", 2), ("d", 1)])
        self.assertEqual(branches(grown_star([5, 1, 2, 4, 8, 16, 32, 64, 128, 256, 512, 999]), "m"),
                         [("a", 1), ("b", 2), ("c", 4), ("d", 8), ("e", 16), ("f", 32), ("g", 64), ("h", 128),
                          ("i", 256), ("j", 512), ("k", 999)])

    def test_branches_of_several_nodes(self):
        self.assertEqual(branches(LONG, "e"), [("a", 2), ("b", 4)])
        self.assertEqual(branches(LONG, "a"), [("c", 2), ("e", 8)])

    def test_a_single_node(self):
        self.assertEqual(branches(ONE, "only"), [])

    def test_many_trees(self):
        for some_tree in trees() + [EMPTY]:
            names = names_of(some_tree)
            for name in names:
                sums = {}
                for other in names:
                    if other != name:
                        by = slow_path(some_tree, name, other)[1]
                        sums[by] = sums.get(by, 0) + weight_of(some_tree, other)
                self.assertEqual(branches(some_tree, name), sorted(sums.items()))

    def test_the_load_of_a_neighbor(self):
        # [9]: by a branch the load falls by the length of the edge times twice its weight less the whole weight.
        for some_tree in trees():
            whole = sum(weight for _, weight in some_tree[0])
            for name in names_of(some_tree):
                for other, weight in branches(some_tree, name):
                    falls = slow_distance(some_tree, name, other) * (2 * weight - whole)
                    self.assertEqual(load(some_tree, ("node", name))[0] - load(some_tree, ("node", other))[0], falls)


class TestIsMedian(unittest.TestCase):
    def test_just_half_of_the_weight(self):
        self.assertIs(is_median(T, "c"), True)
        self.assertIs(is_median(T, "b"), True)
        for weights, wanted in (((2, 1, 1), [True, True, False]), ((1, 1, 1), [False, True, False]),
                                ((5, 2, 2), [True, False, False]), ((0, 0, 0), [True, True, True]),
                                ((4, 0, 4), [True, True, True]), ((4, 0, 5), [False, False, True])):
            some_tree = tree(list(zip("abc", weights)), [("a", "b", 7), ("b", "c", 1)])
            self.assertEqual([is_median(some_tree, name) for name in "abc"], wanted, weights)

    def test_kinds(self):
        for name in "abcd":
            self.assertIs(type(is_median(T, name)), bool)
        self.assertIs(is_median(ONE, "only"), True)


class TestNewLists(unittest.TestCase):
    def test_changing_an_answer_does_not_change_the_next_one(self):
        kept = (list(medians(T)), list(branches(T, "b")))
        for answer in (medians, lambda some_tree: branches(some_tree, "b")):
            found = answer(T)
            found.reverse()
            found.append("spoiled")
            answer(T).clear()
        self.assertEqual((medians(T), branches(T, "b")), kept)
        self.assertEqual(T, ((("a", 1), ("b", 0), ("c", 2), ("d", 1)),
                             (("a", "b", 3), ("b", "c", 4), ("b", "d", 2))))


if __name__ == "__main__":
    unittest.main()
