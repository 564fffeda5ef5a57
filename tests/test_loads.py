"""Points [25], [26], [27] and [2]: the flow between loads, its cost, the plan, and the prices for both."""

import itertools
import unittest

from tests.samples import LONG, ONE, T, TWO, links, made, scattered, slow_all, slow_path, trees
from treeserved.errors import RouteError, TreeError
from treeserved.loads import cost, flow, plan, prices
from treeserved.trees import names_of, tree

STAR = tree([(name, 1) for name in "mabcd"], [("m", name, 3 + k) for k, name in enumerate("abcd")])
ROW = tree([(name, 1) for name in "abcde"], [(one, two, 2) for one, two in ("ab", "bc", "cd", "de")])


def packed(numbers):
    """A load of a dict: only numbers greater than 0, ascending by nodes."""
    return sorted((name, number) for name, number in numbers.items() if number)


def loads_of(some_tree, count):
    """Pairs of loads of a tree with equal sums, dealt out in several steps."""
    names = names_of(some_tree)
    for k in range(count):
        total = (1, 4, 9, 30, 999)[k % 5]
        found = []
        for start, step in ((k, 5 + k % 3), (3 * k + 1, 7)):
            numbers, left = dict.fromkeys(names, 0), total
            for turn in range(1 + k % 4):
                part = left // 2 if turn < k % 4 else left
                numbers[names[(start + step * turn) % len(names)]] += part
                left -= part
            found.append(packed(numbers))
        yield found


def slow_more(some_tree, first, second):
    return {name: dict(first).get(name, 0) - dict(second).get(name, 0) for name in names_of(some_tree)}


def slow_flow(some_tree, first, second):
    more = slow_more(some_tree, first, second)
    found = []
    for one, two, _ in some_tree[1]:
        # A node is on the side of one if the way to two goes by way of one.
        number = sum(more[name] for name in more if one in slow_path(some_tree, name, two))
        if number:
            found.append((one, two, number) if number > 0 else (two, one, -number))
    return sorted(found)


def slow_cost(some_tree, first, second):
    table = links(some_tree)
    return sum(number * table[one][two] for one, two, number in slow_flow(some_tree, first, second))


def slow_plan(some_tree, first, second):
    """The plan as the document tells it, with what is left of the flow in a dict of dicts."""
    now, want = dict(first), dict(second)
    left = {}
    for one, two, number in slow_flow(some_tree, first, second):
        left.setdefault(one, {})[two] = number
    found = []
    while any(left.values()):
        start = min(name for name in now if now[name] > want.get(name, 0))
        way = [start]
        while now.get(way[-1], 0) >= want.get(way[-1], 0):
            way.append(min(left[way[-1]]))
        end = way[-1]
        number = min([now[start] - want.get(start, 0), want[end] - now.get(end, 0)] +
                     [left[one][two] for one, two in zip(way, way[1:])])
        found.append((start, end, number))
        now[start] -= number
        now[end] = now.get(end, 0) + number
        for one, two in zip(way, way[1:]):
            left[one][two] -= number
            if not left[one][two]:
                del left[one][two]
    return found


def slow_prices(some_tree, first, second):
    flowing = [row[:2] for row in slow_flow(some_tree, first, second)]
    table = links(some_tree)
    found = []
    for name in names_of(some_tree):
        way = slow_path(some_tree, names_of(some_tree)[0], name)
        steps = list(zip(way, way[1:]))
        found.append((name, sum(table[one][two] * (((two, one) in flowing) - ((one, two) in flowing))
                                for one, two in steps)))
    return found


def least_cost(some_tree, first, second):
    """The least cost of moving unit by unit, by trying all ways of dealing the units out."""
    far = slow_all(some_tree)
    units = [name for name, number in first for _ in range(number)]
    wanted = [name for name, number in second for _ in range(number)]
    return min(sum(far[one][two] for one, two in zip(units, dealt)) for dealt in itertools.permutations(wanted))


def moved(some_tree, first, moves):
    """The load behind all moves, and the least that a node has in between."""
    now = {name: dict(first).get(name, 0) for name in names_of(some_tree)}
    least = 0
    for one, two, number in moves:
        now[one] -= number
        now[two] += number
        least = min(least, *now.values())
    return packed(now), least


class TestFlowAndCost(unittest.TestCase):
    def test_by_hand(self):
        # One side of ab has 2 less, one side of bc 1 more, and one side of bd 1 less.
        self.assertEqual(flow(T, [("c", 3)], [("a", 2), ("d", 1)]), [("b", "a", 2), ("b", "d", 1), ("c", "b", 3)])
        self.assertEqual(cost(T, [("c", 3)], [("a", 2), ("d", 1)]), 2 * 3 + 1 * 2 + 3 * 4)
        self.assertEqual(flow(TWO, [("x", 1)], [("y", 1)]), [("x", "y", 1)])
        self.assertEqual(cost(TWO, [("y", 5)], [("x", 5)]), 5 * 999)

    def test_equal_loads(self):
        for some_tree in trees():
            for first, _ in loads_of(some_tree, 5):
                self.assertEqual(flow(some_tree, first, list(first)), [])
                self.assertEqual(cost(some_tree, first, list(first)), 0)

    def test_empty_loads(self):
        for some_tree in (ONE, TWO, T):
            self.assertEqual((flow(some_tree, [], []), cost(some_tree, [], [])), ([], 0))

    def test_loads_on_one_node(self):
        self.assertEqual(flow(ONE, [("only", 999)], [("only", 999)]), [])
        self.assertEqual(flow(ROW, [("d", 7)], [("b", 7)]), [("c", "b", 7), ("d", "c", 7)])
        self.assertEqual(cost(ROW, [("d", 7)], [("b", 7)]), 28)

    def test_edges_without_flow_are_left_out(self):
        self.assertEqual(flow(ROW, [("a", 1), ("e", 2)], [("b", 1), ("d", 2)]), [("a", "b", 1), ("e", "d", 2)])
        self.assertEqual(flow(ROW, [("a", 1), ("e", 2)], [("c", 3)]),
                         [("a", "b", 1), ("b", "c", 1), ("d", "c", 2), ("e", "d", 2)])

    def test_ascending_by_the_node_it_comes_from(self):
        self.assertEqual(flow(STAR, [("d", 1), ("m", 2)], [("a", 2), ("b", 1)]),
                         [("d", "m", 1), ("m", "a", 2), ("m", "b", 1)])

    def test_many_trees(self):
        for some_tree in trees():
            for first, second in loads_of(some_tree, 10):
                self.assertEqual(flow(some_tree, first, second), slow_flow(some_tree, first, second))
                self.assertEqual(cost(some_tree, first, second), slow_cost(some_tree, first, second))

    def test_no_way_of_moving_costs_less(self):
        for some_tree in trees()[:40]:
            names = names_of(some_tree)
            for k in range(6):
                units = [names[(3 * k + 5 * turn) % len(names)] for turn in range(5)]
                wanted = [names[(k + 2 + 7 * turn * turn) % len(names)] for turn in range(5)]
                first, second = [sorted((name, row.count(name)) for name in set(row)) for row in (units, wanted)]
                self.assertEqual(cost(some_tree, first, second), least_cost(some_tree, first, second))


class TestPlan(unittest.TestCase):
    def test_equal_and_empty_loads(self):
        self.assertEqual(plan(T, [("b", 3)], [("b", 3)]), [])
        self.assertEqual(plan(ONE, [], []), [])

    def test_the_least_node_with_too_much_and_the_least_neighbor_first(self):
        self.assertEqual(plan(STAR, [("c", 2), ("d", 3)], [("a", 1), ("b", 4)]),
                         [("c", "a", 1), ("c", "b", 1), ("d", "b", 3)])
        self.assertEqual(plan(STAR, [("m", 5)], [("a", 2), ("b", 3)]), [("m", "a", 2), ("m", "b", 3)])

    def test_the_first_node_with_too_little_on_the_way(self):
        # Both b and c lack, and b comes first on the way.
        self.assertEqual(plan(ROW, [("a", 5)], [("b", 2), ("c", 3)]), [("a", "b", 2), ("a", "c", 3)])
        self.assertEqual(plan(ROW, [("e", 5)], [("b", 2), ("c", 3)]), [("e", "c", 3), ("e", "b", 2)])

    def test_nodes_on_the_way_that_have_too_much_are_passed(self):
        self.assertEqual(plan(ROW, [("a", 1), ("b", 1)], [("c", 2)]), [("a", "c", 1), ("b", "c", 1)])

    def test_the_number_is_what_is_too_much_at_the_start(self):
        self.assertEqual(plan(ROW, [("a", 2), ("e", 3)], [("c", 5)]), [("a", "c", 2), ("e", "c", 3)])

    def test_the_number_is_what_lacks_at_the_end(self):
        self.assertEqual(plan(ROW, [("c", 5)], [("a", 2), ("e", 3)]), [("c", "a", 2), ("c", "e", 3)])

    def test_the_number_is_what_is_left_on_an_edge(self):
        # x lacks 8 and a has 5 too much, but only 2 of these go to x.
        some_tree = tree([(name, 0) for name in "axyz"], [("a", "x", 1), ("a", "y", 1), ("x", "z", 1)])
        self.assertEqual(plan(some_tree, [("a", 5), ("z", 6)], [("x", 8), ("y", 3)]),
                         [("a", "x", 2), ("a", "y", 3), ("z", "x", 6)])

    def test_a_start_that_passes_more_than_its_own(self):
        # 5 go from c to b, but c itself has only 1 too much; e sends the rest later.
        self.assertEqual(plan(ROW, [("c", 1), ("e", 4)], [("a", 5)]), [("c", "a", 1), ("e", "a", 4)])

    def test_many_trees(self):
        for some_tree in trees():
            far = slow_all(some_tree)
            for first, second in loads_of(some_tree, 10):
                moves = plan(some_tree, first, second)
                self.assertEqual(moves, slow_plan(some_tree, first, second))
                self.assertEqual(moved(some_tree, first, moves), (second, 0))
                self.assertEqual(sum(number * far[one][two] for one, two, number in moves),
                                 cost(some_tree, first, second))
                self.assertTrue(all(number > 0 for _, _, number in moves))

    def test_loads_on_many_nodes(self):
        for some_tree in trees():
            names = names_of(some_tree)
            first = [(name, 1 + (7 * k) % 5) for k, name in enumerate(names)]
            second = [(name, 1 + (7 * k) % 5) for k, name in enumerate(reversed(names))]
            for second in (sorted(second), [(names[-1], sum(number for _, number in first))]):
                if sum(number for _, number in first) == sum(number for _, number in second):
                    self.assertEqual(plan(some_tree, first, second), slow_plan(some_tree, first, second))


class TestPrices(unittest.TestCase):
    def test_by_hand(self):
        # The flow goes from c to b, and on to a and d; so from a up to b and to c, and from b down to d.
        self.assertEqual(prices(T, [("c", 3)], [("a", 2), ("d", 1)]), [("a", 0), ("b", 3), ("c", 7), ("d", 1)])
        self.assertEqual(prices(T, [("a", 2), ("d", 1)], [("c", 3)]), [("a", 0), ("b", -3), ("c", -7), ("d", -1)])

    def test_edges_without_flow(self):
        self.assertEqual(prices(ROW, [("a", 1), ("e", 2)], [("b", 1), ("d", 2)]),
                         [("a", 0), ("b", -2), ("c", -2), ("d", -2), ("e", 0)])

    def test_equal_and_empty_loads(self):
        for some_tree in (ONE, TWO, T, LONG):
            zeros = [(name, 0) for name in names_of(some_tree)]
            self.assertEqual(prices(some_tree, [], []), zeros)
            name = names_of(some_tree)[-1]
            self.assertEqual(prices(some_tree, [(name, 5)], [(name, 5)]), zeros)

    def test_many_trees(self):
        for some_tree in trees():
            for first, second in loads_of(some_tree, 10):
                found = prices(some_tree, first, second)
                self.assertEqual(found, slow_prices(some_tree, first, second))
                self.assertEqual(found[0], (names_of(some_tree)[0], 0))
                price, more = dict(found), slow_more(some_tree, first, second)
                for one, two, length in some_tree[1]:
                    self.assertLessEqual(abs(price[one] - price[two]), length)
                self.assertEqual(sum(price[name] * more[name] for name in more), cost(some_tree, first, second))

    def test_a_way_of_moving_costs_no_less(self):
        for some_tree in (T, LONG, STAR, made([k // 2 for k in range(11)]), scattered([0] * 11)):
            far = slow_all(some_tree)
            names = names_of(some_tree)
            first, second = [(names[0], 2), (names[2], 3)], [(names[1], 4), (names[3], 1)]
            price, more = dict(prices(some_tree, first, second)), slow_more(some_tree, first, second)
            told = sum(price[name] * more[name] for name in more)
            for part in range(3):
                # So many units go from the first node to the second one, the rest to the fourth one, and so on.
                way = [(0, 1, part), (0, 3, 2 - part), (2, 1, 4 - part), (2, 3, part - 1)]
                if all(number >= 0 for _, _, number in way):
                    self.assertGreaterEqual(sum(number * far[names[i]][names[j]] for i, j, number in way), told)


class TestOtherSum(unittest.TestCase):
    def test_all_functions(self):
        for function in (flow, cost, plan, prices):
            for first, second in (([("a", 1)], []), ([], [("a", 1)]), ([("a", 2)], [("a", 1)]),
                                  ([("a", 2), ("b", 3)], [("c", 2), ("d", 4)]), ([("a", 999)], [("b", 998)])):
                kept = (list(first), list(second))
                with self.assertRaises(RouteError) as caught:
                    function(T, first, second)
                self.assertEqual(caught.exception.what, "other sum")
                self.assertIsInstance(caught.exception, TreeError)
                self.assertEqual((first, second), kept)

    def test_a_tree_of_one_node(self):
        for function in (flow, cost, plan, prices):
            with self.assertRaises(RouteError):
                function(ONE, [("only", 1)], [("only", 2)])


class TestBeyondLimits(unittest.TestCase):
    def test_great_numbers_raise_no_error(self):
        self.assertEqual(plan(TWO, [("x", 10 ** 6)], [("y", 10 ** 6)]), [("x", "y", 10 ** 6)])
        self.assertEqual(cost(TWO, [("x", 10 ** 6)], [("y", 10 ** 6)]), 999 * 10 ** 6)

    def test_zero_raises_no_error(self):
        self.assertEqual(flow(TWO, [("x", 0)], []), [])
        self.assertEqual(plan(TWO, [("x", 0), ("y", 1)], [("x", 1)]), [("y", "x", 1)])


class TestArguments(unittest.TestCase):
    def test_lists_that_are_passed_stay_as_they_are(self):
        first, second = [("a", 2), ("d", 1)], [("c", 3)]
        for function in (flow, cost, plan, prices):
            function(T, first, second)
            self.assertEqual((first, second), ([("a", 2), ("d", 1)], [("c", 3)]))

    def test_changing_an_answer_does_not_change_the_next_one(self):
        for _ in range(2):
            for function, wanted in ((flow, [("x", "y", 1)]), (plan, [("x", "y", 1)]), (prices, [("x", 0), ("y", -999)])):
                found = function(TWO, [("x", 1)], [("y", 1)])
                self.assertEqual(found, wanted)
                found.clear()

    def test_kinds(self):
        self.assertIs(type(cost(T, [("a", 1)], [("b", 1)])), int)
        self.assertEqual([type(row) for row in flow(T, [("a", 1)], [("b", 1)])], [tuple])


if __name__ == "__main__":
    unittest.main()
