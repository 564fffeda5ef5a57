"""Points [21] to [24] and [2]: needed edges, walks, rounds, trips, and the reasons why none is shorter."""

import heapq
import itertools
import unittest

from tests.samples import LONG, ONE, T, TWO, links, slow_all, slow_path, trees
from treeserved.routes import needed, round_of, round_reason, trip_of, trip_reason, walk_length
from treeserved.trees import names_of, tree

# Below a hang b with d and e, and c with f and g; e has one more node, h.
BUSH = tree([(name, 1) for name in "abcdefgh"],
            [("a", "b", 1), ("a", "c", 9), ("b", "d", 7), ("b", "e", 2), ("c", "f", 3), ("c", "g", 3), ("e", "h", 4)])


def edges_of_path(some_tree, first, second):
    way = slow_path(some_tree, first, second)
    return [tuple(sorted(step)) for step in zip(way, way[1:])]


def slow_needed(some_tree, start, wanted):
    return sorted({edge for name in wanted for edge in edges_of_path(some_tree, start, name)})


def slow_length(some_tree, walk):
    """The length of a walk, or None if it is none."""
    table = links(some_tree)
    if not walk or any(name not in table for name in walk):
        return None
    if any(two not in table[one] for one, two in zip(walk, walk[1:])):
        return None
    return sum(table[one][two] for one, two in zip(walk, walk[1:]))


def lengths_of(some_tree):
    return {(one, two): length for one, two, length in some_tree[1]}


def slow_round(some_tree, start, wanted):
    """The told round, step by step: on to the least neighbor by a needed edge that is new, or else back."""
    table = links(some_tree)
    left = slow_needed(some_tree, start, wanted)
    walk, way = [start], [start]
    while left or len(way) > 1:
        fresh = [other for other in sorted(table[way[-1]]) if tuple(sorted((way[-1], other))) in left]
        if fresh:
            left.remove(tuple(sorted((way[-1], fresh[0]))))
            way.append(fresh[0])
        else:
            way.pop()
        walk.append(way[-1])
    return walk


def slow_end(some_tree, start, wanted):
    far = slow_all(some_tree)[start]
    most = max([far[name] for name in wanted], default=0)
    return min([name for name in wanted if far[name] == most], default=start)


def slow_trip(some_tree, start, wanted):
    """The told trip: the round in which, at each node of the path to the end, the edge onward is taken last."""
    table = links(some_tree)
    onward = edges_of_path(some_tree, start, slow_end(some_tree, start, wanted))
    left = slow_needed(some_tree, start, wanted)
    walk, way = [start], [start]
    while left:
        steps = [(tuple(sorted((way[-1], other))), other) for other in sorted(table[way[-1]])]
        fresh = [step for step in steps if step[0] in left and step[0] not in onward]
        fresh = fresh + [step for step in steps if step[0] in left and step[0] in onward and
                         way == slow_path(some_tree, start, way[-1])]
        if fresh:
            left.remove(fresh[0][0])
            way.append(fresh[0][1])
        else:
            way.pop()
        walk.append(way[-1])
    # Back from the last branch to the path, if the walk has not come to its end yet.
    while walk[-1] != slow_end(some_tree, start, wanted):
        way.pop()
        walk.append(way[-1])
    return walk


def shortest(some_tree, start, wanted, back):
    """The length of a shortest walk through all wanted nodes, by a plain search over what has been seen."""
    table = links(some_tree)
    queue = [(0, start, frozenset([start]) & frozenset(wanted))]
    done = set()
    while True:
        far, name, seen = heapq.heappop(queue)
        if len(seen) == len(wanted) and (name == start or not back):
            return far
        if (name, seen) not in done:
            done.add((name, seen))
            for other, length in table[name].items():
                heapq.heappush(queue, (far + length, other, seen | ({other} & set(wanted))))


def slow_reason(some_tree, start, wanted):
    found = {}
    for name in sorted(wanted):
        for edge in edges_of_path(some_tree, start, name):
            found.setdefault(edge, name)
    return sorted(found.items())


def choices(some_tree):
    """Starts and lists of different wanted nodes of a tree, in several orders."""
    names = names_of(some_tree)
    for count in range(len(names) + 1):
        for shift in range(0, len(names), 2):
            order = list(dict.fromkeys(names[(shift + 5 * k) % len(names)] for k in range(12)))
            order = order + [name for name in names if name not in order]
            yield names[(3 * shift + count) % len(names)], order[:count]


def all_choices(some_tree):
    names = names_of(some_tree)
    for start in names:
        for count in range(len(names) + 1):
            for wanted in itertools.combinations(names, count):
                yield start, list(wanted)


def small_trees():
    return [some_tree for some_tree in trees() if len(some_tree[0]) <= 5]


class TestNeeded(unittest.TestCase):
    def test_by_hand(self):
        self.assertEqual(needed(BUSH, "a", ["h", "f"]), [("a", "b"), ("a", "c"), ("b", "e"), ("c", "f"), ("e", "h")])
        self.assertEqual(needed(BUSH, "e", ["d", "h"]), [("b", "d"), ("b", "e"), ("e", "h")])
        self.assertEqual(needed(BUSH, "g", ["f"]), [("c", "f"), ("c", "g")])

    def test_no_wanted_node(self):
        for some_tree in (ONE, TWO, BUSH):
            for name in names_of(some_tree):
                self.assertEqual(needed(some_tree, name, []), [])

    def test_the_start_among_them(self):
        self.assertEqual(needed(BUSH, "a", ["a"]), [])
        self.assertEqual(needed(BUSH, "b", ["a", "b"]), [("a", "b")])
        self.assertEqual(needed(ONE, "only", ["only"]), [])

    def test_all_nodes(self):
        for some_tree in trees():
            for start in names_of(some_tree)[:3]:
                wanted = [edge[:2] for edge in some_tree[1]]
                self.assertEqual(needed(some_tree, start, names_of(some_tree)), wanted)

    def test_many_trees(self):
        for some_tree in trees():
            for start, wanted in choices(some_tree):
                self.assertEqual(needed(some_tree, start, wanted), slow_needed(some_tree, start, wanted))

    def test_kinds(self):
        self.assertEqual([type(edge) for edge in needed(T, "a", ["c"])], [tuple, tuple])


class TestWalkLength(unittest.TestCase):
    def test_a_single_node(self):
        for name in "abcd":
            self.assertEqual(walk_length(T, [name]), 0)
        self.assertEqual(walk_length(ONE, ["only"]), 0)

    def test_to_and_fro(self):
        self.assertEqual(walk_length(T, ["a", "b", "a"]), 6)
        self.assertEqual(walk_length(T, ["a", "b", "c", "b", "d", "b", "a"]), 18)
        self.assertEqual(walk_length(TWO, ["x", "y"] * 10), 19 * 999)

    def test_the_empty_list(self):
        self.assertIsNone(walk_length(T, []))
        self.assertIsNone(walk_length(ONE, []))

    def test_strings_that_are_no_nodes(self):
        for name in ("q", "", "A", "ab", "\n"):
            for walk in ([name], ["a", name], [name, "a"], ["a", "b", name], [name, name]):
                self.assertIsNone(walk_length(T, walk))

    def test_nodes_that_are_no_neighbors(self):
        for walk in (["a", "c"], ["a", "b", "a", "d"], ["c", "d", "b"]):
            self.assertIsNone(walk_length(T, walk))

    def test_a_node_twice_in_a_row(self):
        for walk in (["a", "a"], ["a", "b", "b", "c"], ["a", "b", "c", "c"]):
            self.assertIsNone(walk_length(T, walk))
        self.assertIsNone(walk_length(ONE, ["only", "only"]))

    def test_all_lists_of_small_trees(self):
        for some_tree in (ONE, TWO, T):
            for count in range(6):
                for walk in itertools.product(names_of(some_tree) + ["q"], repeat=count):
                    self.assertEqual(walk_length(some_tree, list(walk)), slow_length(some_tree, walk))


class TestRound(unittest.TestCase):
    def test_by_hand(self):
        self.assertEqual(round_of(BUSH, "a", ["h", "g", "d"]), list("abdbehebacgca"))
        self.assertEqual(round_of(BUSH, "e", ["f", "d"]), list("ebacfcabdbe"))
        self.assertEqual(round_of(BUSH, "c", ["g", "a", "f"]), list("cacfcgc"))
        self.assertEqual(round_of(LONG, "e", ["c", "d"]), list("eacaebdbe"))

    def test_no_wanted_node_and_only_the_start(self):
        for some_tree in (ONE, TWO, BUSH):
            for name in names_of(some_tree):
                self.assertEqual(round_of(some_tree, name, []), [name])
                self.assertEqual(round_of(some_tree, name, [name]), [name])

    def test_many_trees(self):
        for some_tree in trees():
            lengths = lengths_of(some_tree)
            for start, wanted in choices(some_tree):
                walk = round_of(some_tree, start, wanted)
                self.assertEqual(walk, slow_round(some_tree, start, wanted))
                self.assertEqual((walk[0], walk[-1]), (start, start))
                self.assertLessEqual(set(wanted), set(walk))
                edges = slow_needed(some_tree, start, wanted)
                self.assertEqual(walk_length(some_tree, walk), 2 * sum(lengths[edge] for edge in edges))

    def test_no_walk_is_shorter(self):
        for some_tree in small_trees():
            for start, wanted in all_choices(some_tree):
                walk = round_of(some_tree, start, wanted)
                self.assertEqual(walk_length(some_tree, walk), shortest(some_tree, start, wanted, True))


class TestTrip(unittest.TestCase):
    def test_by_hand(self):
        self.assertEqual(trip_of(BUSH, "a", ["h", "g", "d"]), list("abdbehebacg"))
        self.assertEqual(trip_of(BUSH, "a", ["h", "b", "d"]), list("abehebd"))
        self.assertEqual(trip_of(BUSH, "e", ["f", "h"]), list("ehebacf"))
        self.assertEqual(trip_of(LONG, "e", ["c", "d"]), list("eacaebd"))

    def test_the_least_of_several_ends(self):
        self.assertEqual(trip_of(BUSH, "a", ["g", "f"]), list("acgcf"))
        self.assertEqual(trip_of(BUSH, "b", ["g", "f", "c"]), list("bacgcf"))
        some_tree = tree([(name, 0) for name in "xyz"], [("x", "y", 7), ("x", "z", 7)])
        self.assertEqual(trip_of(some_tree, "x", ["z", "y"]), ["x", "z", "x", "y"])

    def test_no_wanted_node_and_only_the_start(self):
        for some_tree in (ONE, TWO, BUSH):
            for name in names_of(some_tree):
                self.assertEqual(trip_of(some_tree, name, []), [name])
                self.assertEqual(trip_of(some_tree, name, [name]), [name])

    def test_many_trees(self):
        for some_tree in trees():
            lengths = lengths_of(some_tree)
            far = slow_all(some_tree)
            for start, wanted in choices(some_tree):
                walk = trip_of(some_tree, start, wanted)
                self.assertEqual(walk, slow_trip(some_tree, start, wanted))
                self.assertEqual((walk[0], walk[-1]), (start, slow_end(some_tree, start, wanted)))
                self.assertLessEqual(set(wanted), set(walk))
                whole = 2 * sum(lengths[edge] for edge in slow_needed(some_tree, start, wanted))
                most = max([far[start][name] for name in wanted], default=0)
                self.assertEqual(walk_length(some_tree, walk), whole - most)

    def test_no_walk_is_shorter(self):
        for some_tree in small_trees():
            for start, wanted in all_choices(some_tree):
                walk = trip_of(some_tree, start, wanted)
                self.assertEqual(walk_length(some_tree, walk), shortest(some_tree, start, wanted, False))


class TestReasons(unittest.TestCase):
    def test_by_hand(self):
        reason = [(("a", "b"), "d"), (("a", "c"), "g"), (("b", "d"), "d"), (("b", "e"), "h"), (("c", "g"), "g"),
                  (("e", "h"), "h")]
        self.assertEqual(round_reason(BUSH, "a", ["h", "g", "d"]), reason)
        self.assertEqual(trip_reason(BUSH, "a", ["h", "g", "d"]), (reason, "g"))
        reason = [(("a", "b"), "a"), (("a", "c"), "f"), (("b", "e"), "a"), (("c", "f"), "f")]
        self.assertEqual(round_reason(BUSH, "e", ["f", "a"]), reason)
        self.assertEqual(trip_reason(BUSH, "e", ["f", "a"]), (reason, "f"))

    def test_the_least_of_several_ends(self):
        reason = [(("a", "c"), "f"), (("c", "f"), "f"), (("c", "g"), "g")]
        self.assertEqual(trip_reason(BUSH, "a", ["g", "f"]), (reason, "f"))

    def test_the_start_is_wanted_and_beyond_no_edge(self):
        self.assertEqual(round_reason(BUSH, "a", ["a", "d"]), [(("a", "b"), "d"), (("b", "d"), "d")])
        self.assertEqual(trip_reason(BUSH, "a", ["a"]), ([], "a"))

    def test_no_wanted_node(self):
        for some_tree in (ONE, TWO, BUSH):
            for name in names_of(some_tree):
                self.assertEqual(round_reason(some_tree, name, []), [])
                self.assertEqual(trip_reason(some_tree, name, []), ([], name))

    def test_many_trees(self):
        for some_tree in trees():
            for start, wanted in choices(some_tree):
                reason = slow_reason(some_tree, start, wanted)
                self.assertEqual(round_reason(some_tree, start, wanted), reason)
                end = slow_end(some_tree, start, wanted)
                self.assertEqual(trip_reason(some_tree, start, wanted), (reason, end))

    def test_kinds(self):
        found = trip_reason(T, "a", ["c"])
        self.assertEqual([type(part) for part in found], [list, str])
        self.assertEqual([type(part) for part in found[0][0]], [tuple, str])


class TestArguments(unittest.TestCase):
    def test_lists_that_are_passed_stay_as_they_are(self):
        wanted, walk = ["g", "d", "h"], ["a", "b", "a"]
        needed(BUSH, "a", wanted)
        round_of(BUSH, "a", wanted)
        trip_of(BUSH, "a", wanted)
        round_reason(BUSH, "a", wanted)
        trip_reason(BUSH, "a", wanted)
        walk_length(BUSH, walk)
        self.assertEqual((wanted, walk), (["g", "d", "h"], ["a", "b", "a"]))

    def test_changing_an_answer_does_not_change_the_next_one(self):
        for _ in range(2):
            for answer, wanted in ((needed(T, "a", ["b"]), [("a", "b")]), (round_of(T, "a", ["b"]), ["a", "b", "a"]),
                                   (trip_of(T, "a", ["b"]), ["a", "b"]), (round_reason(T, "a", ["b"]), [(("a", "b"), "b")]),
                                   (trip_reason(T, "a", ["b"])[0], [(("a", "b"), "b")])):
                self.assertEqual(answer, wanted)
                answer.clear()


if __name__ == "__main__":
    unittest.main()
