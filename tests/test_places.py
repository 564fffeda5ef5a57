"""Points [7], [8], [9] and [2]: places and numbers, distances of places, their reach and their load."""

import itertools
import math
import unittest
from fractions import Fraction

from tests.samples import (LONG, ONE, T, TWO, links, made, scattered, slow_distance, slow_far, slow_path, spots, told,
                           trees)
from treeserved.places import between, load, place_on, reach
from treeserved.trees import names_of, tree, weight_of


class Numbers(unittest.TestCase):
    def check_number(self, number):
        """Check the form of a number."""
        self.assertIs(type(number), tuple)
        self.assertEqual([type(part) for part in number], [int, int])
        top, bottom = number
        self.assertGreaterEqual(bottom, 1)
        self.assertEqual(math.gcd(top, bottom), 1)

    def same(self, number, wanted):
        """Check that a number has the value that is wanted, in lowest terms."""
        self.check_number(number)
        self.assertEqual(number, told(Fraction(wanted)))


def slow_place(some_tree, first, second, offset):
    """The place that is come to by walking so far on the path."""
    left = Fraction(offset)
    way = slow_path(some_tree, first, second)
    for here, there in zip(way, way[1:]):
        length = links(some_tree)[here][there]
        if left == 0:
            return "node", here
        if left < length:
            return "edge", min(here, there), max(here, there), told(left if here < there else length - left)
        left -= length
    return "node", second


class TestExample(unittest.TestCase):
    def test_example_of_the_interface(self):
        p = place_on(T, "a", "c", (7, 2))
        self.assertEqual((p, between(T, p, ("node", "d")), reach(T, p), place_on(T, "a", "c", 3)),
                         (("edge", "b", "c", (1, 2)), (5, 2), (7, 2), ("node", "b")))


class TestPlaceOn(Numbers):
    def test_nodes_by_integers(self):
        for offset, name in ((0, "c"), (1, "a"), (3, "e"), (7, "b"), (15, "d")):
            self.assertEqual(place_on(LONG, "c", "d", offset), ("node", name))
            self.assertEqual(place_on(LONG, "d", "c", 15 - offset), ("node", name))

    def test_nodes_by_numbers(self):
        for offset, name in ((0, "c"), (1, "a"), (3, "e"), (7, "b"), (15, "d")):
            self.assertEqual(place_on(LONG, "c", "d", (offset, 1)), ("node", name))
            self.assertEqual(place_on(LONG, "d", "c", (15 - offset, 1)), ("node", name))

    def test_offsets_beyond_the_ends_raise_no_error(self):
        for some_tree, first, second in ((LONG, "c", "d"), (LONG, "d", "c"), (TWO, "y", "x"), (ONE, "only", "only")):
            for offset in (1000, 10 ** 6, (4001, 2)):
                self.assertEqual(place_on(some_tree, first, second, offset), ("node", second))
            for offset in (-1, (-1, 2), -10 ** 6):
                self.assertEqual(place_on(some_tree, first, second, offset), ("node", first))

    def test_points_by_integers_have_the_offset_from_the_lesser_name(self):
        self.assertEqual(place_on(LONG, "c", "d", 2), ("edge", "a", "e", (1, 1)))
        self.assertEqual(place_on(LONG, "c", "d", 4), ("edge", "b", "e", (3, 1)))
        self.assertEqual(place_on(LONG, "c", "d", 9), ("edge", "b", "d", (2, 1)))
        self.assertEqual(place_on(LONG, "d", "c", 6), ("edge", "b", "d", (2, 1)))
        self.assertEqual(place_on(LONG, "d", "c", 11), ("edge", "b", "e", (3, 1)))
        self.assertEqual(place_on(LONG, "d", "c", 13), ("edge", "a", "e", (1, 1)))

    def test_points_by_numbers(self):
        self.assertEqual(place_on(LONG, "c", "d", (1, 3)), ("edge", "a", "c", (2, 3)))
        self.assertEqual(place_on(LONG, "a", "c", (1, 3)), ("edge", "a", "c", (1, 3)))
        self.assertEqual(place_on(LONG, "c", "d", (9, 2)), ("edge", "b", "e", (5, 2)))
        self.assertEqual(place_on(LONG, "d", "c", (15, 2)), ("edge", "b", "d", (1, 2)))
        self.assertEqual(place_on(LONG, "d", "c", (1, 999)), ("edge", "b", "d", (7991, 999)))

    def test_an_integer_and_the_number_of_it_tell_the_same(self):
        for offset in range(16):
            for first, second in (("c", "d"), ("d", "c")):
                self.assertEqual(place_on(LONG, first, second, offset), place_on(LONG, first, second, (offset, 1)))

    def test_just_beside_a_node(self):
        self.assertEqual(place_on(TWO, "x", "y", (1, 1000)), ("edge", "x", "y", (1, 1000)))
        self.assertEqual(place_on(TWO, "y", "x", (1, 1000)), ("edge", "x", "y", (998999, 1000)))
        self.assertEqual(place_on(TWO, "x", "y", 999), ("node", "y"))
        self.assertEqual(place_on(TWO, "x", "y", 998), ("edge", "x", "y", (998, 1)))

    def test_from_a_node_to_itself(self):
        for some_tree in (ONE, TWO, LONG):
            for name in names_of(some_tree):
                self.assertEqual(place_on(some_tree, name, name, 0), ("node", name))
                self.assertEqual(place_on(some_tree, name, name, (0, 1)), ("node", name))

    def test_edges_longer_than_tree_takes(self):
        # [19]: a grown tree may have such edges.
        some_tree = ((("a", 0), ("b", 0)), (("a", "b", 30001),))
        self.assertEqual(place_on(some_tree, "b", "a", (30001, 2)), ("edge", "a", "b", (30001, 2)))

    def test_many_trees(self):
        for some_tree in trees():
            names = names_of(some_tree)
            for first, second in list(itertools.product(names, repeat=2))[::1 + len(names) // 4]:
                far = slow_distance(some_tree, first, second)
                for offset in [Fraction(far * k, 6) for k in range(7)] + [Fraction(k) for k in range(min(far, 4))]:
                    place = place_on(some_tree, first, second, told(offset))
                    self.assertEqual(place, slow_place(some_tree, first, second, offset))
                    self.assertEqual([type(part) for part in place], [str, str, str, tuple] if place[2:] else [str, str])
                    if offset.denominator == 1:
                        self.assertEqual(place_on(some_tree, first, second, offset.numerator), place)
                    if place[2:]:
                        self.check_number(place[3])

    def test_the_place_is_so_far_away(self):
        for some_tree in (T, LONG, TWO):
            for first, second in itertools.product(names_of(some_tree), repeat=2):
                far = slow_distance(some_tree, first, second)
                for offset in [Fraction(far * k, 10) for k in range(11)]:
                    place = place_on(some_tree, first, second, told(offset))
                    self.same(between(some_tree, ("node", first), place), offset)
                    self.same(between(some_tree, place, ("node", second)), far - offset)


class TestBetween(Numbers):
    def both(self, some_tree, place, other, wanted):
        self.assertEqual(between(some_tree, place, other), wanted)
        self.assertEqual(between(some_tree, other, place), wanted)

    def test_two_nodes(self):
        self.both(T, ("node", "a"), ("node", "d"), (5, 1))
        self.both(LONG, ("node", "c"), ("node", "d"), (15, 1))
        self.both(TWO, ("node", "x"), ("node", "y"), (999, 1))

    def test_a_node_and_a_point(self):
        self.both(T, ("node", "a"), ("edge", "b", "c", (1, 2)), (7, 2))
        self.both(T, ("node", "b"), ("edge", "b", "c", (1, 2)), (1, 2))
        self.both(T, ("node", "c"), ("edge", "b", "c", (1, 2)), (7, 2))
        self.both(LONG, ("node", "c"), ("edge", "b", "d", (3, 4)), (31, 4))
        self.both(LONG, ("node", "e"), ("edge", "a", "c", (1, 3)), (7, 3))

    def test_two_points_of_different_edges(self):
        self.both(T, ("edge", "a", "b", (1, 2)), ("edge", "b", "c", (1, 3)), (17, 6))
        self.both(T, ("edge", "b", "c", (1, 2)), ("edge", "b", "d", (1, 2)), (1, 1))
        self.both(T, ("edge", "b", "c", (1, 6)), ("edge", "b", "d", (1, 10)), (4, 15))
        self.both(LONG, ("edge", "a", "c", (1, 4)), ("edge", "b", "d", (1, 6)), (77, 12))

    def test_two_points_of_one_edge(self):
        self.both(TWO, ("edge", "x", "y", (1, 2)), ("edge", "x", "y", (1, 3)), (1, 6))
        self.both(TWO, ("edge", "x", "y", (1, 1)), ("edge", "x", "y", (998, 1)), (997, 1))
        self.both(T, ("edge", "b", "c", (1, 4)), ("edge", "b", "c", (15, 4)), (7, 2))

    def test_a_place_and_itself(self):
        for some_tree in (ONE, TWO, T, LONG):
            for place in spots(some_tree, 3):
                self.assertEqual(between(some_tree, place, place), (0, 1))

    def test_edges_with_one_end_in_common_are_not_one_edge(self):
        self.both(T, ("edge", "b", "c", (1, 1)), ("edge", "b", "d", (1, 1)), (2, 1))
        self.both(LONG, ("edge", "a", "c", (1, 2)), ("edge", "a", "e", (1, 2)), (1, 1))

    def test_many_trees_and_places(self):
        for some_tree in trees():
            places = spots(some_tree, 3)
            far = slow_far(some_tree, places)
            for place, other in list(itertools.product(places, repeat=2))[::1 + len(places) // 5]:
                self.same(between(some_tree, place, other), far[place][other])
                self.assertEqual(between(some_tree, other, place), between(some_tree, place, other))


class TestReachAndLoad(Numbers):
    def test_nodes(self):
        self.assertEqual([reach(T, ("node", name)) for name in "abcd"], [(7, 1), (4, 1), (7, 1), (6, 1)])
        self.assertEqual([load(T, ("node", name)) for name in "abcd"], [(19, 1), (13, 1), (13, 1), (17, 1)])
        self.assertEqual([reach(LONG, ("node", name)) for name in "cd"], [(15, 1), (15, 1)])

    def test_points(self):
        self.assertEqual(reach(T, ("edge", "b", "c", (1, 2))), (7, 2))
        self.assertEqual(reach(T, ("edge", "a", "b", (1, 3))), (20, 3))
        self.assertEqual(load(T, ("edge", "b", "c", (1, 2))), (13, 1))
        self.assertEqual(load(T, ("edge", "a", "b", (1, 3))), (55, 3))
        self.assertEqual(load(TWO, ("edge", "x", "y", (1, 4))), (3997, 4))

    def test_weights_of_zero(self):
        some_tree = tree([("a", 0), ("b", 0), ("c", 0)], [("a", "b", 3), ("b", "c", 5)])
        for place in spots(some_tree, 4):
            self.assertEqual(load(some_tree, place), (0, 1))
        self.assertEqual(reach(some_tree, ("edge", "b", "c", (3, 2))), (9, 2))
        # [8]: a node counts for the reach also if it has no weight.
        self.assertEqual(reach(tree([("a", 0), ("b", 5)], [("a", "b", 3)]), ("node", "b")), (3, 1))

    def test_one_node(self):
        self.assertEqual(reach(ONE, ("node", "only")), (0, 1))
        self.assertEqual(load(ONE, ("node", "only")), (0, 1))

    def test_many_trees_and_places(self):
        for some_tree in trees():
            places = spots(some_tree, 4)
            far = slow_far(some_tree, places)
            nodes = [("node", name) for name in names_of(some_tree)]
            for place in places:
                self.same(reach(some_tree, place), max(far[place][node] for node in nodes))
                self.same(load(some_tree, place), sum(weight_of(some_tree, node[1]) * far[place][node] for node in nodes))


class TestArguments(unittest.TestCase):
    def test_the_tree_stays_as_it_is(self):
        for some_tree, same in ((made([0, 0, 1]), made([0, 0, 1])), (scattered([0, 1]), scattered([0, 1]))):
            for place in spots(some_tree, 3):
                reach(some_tree, place)
                load(some_tree, place)
                between(some_tree, place, ("node", names_of(some_tree)[0]))
            self.assertEqual(some_tree, same)


if __name__ == "__main__":
    unittest.main()
