"""Points [30], [31] and [2]: the deeds of a yard, their faults, what is taken back, the log, and equal yards."""

import inspect
import itertools
import unittest

from tests.samples import NAMES, slow_distance
from treeserved.errors import TreeError, YardError
from treeserved.trees import tree
from treeserved.yards import Yard, replayed

WRONG_NAMES = ("", "abcdefghi", "1a", "A", "a b", "a_b", " ", "\n", "a\n")
DEEDS = [("add", "b", 2), ("add", "a", 1), ("join", "b", "a", 7), ("add", "c", 0), ("weigh", "a", 999),
         ("stretch", "a", "b", 999), ("join", "a", "c", 1), ("cut", "b", "a"), ("join", "c", "b", 5)]


def done(yard, deed):
    """Do a deed of a log; return the what of the error, or None."""
    try:
        result = getattr(yard, deed[0])(*deed[1:])
        assert result is None
    except YardError as fault:
        return fault.what
    return None


class SlowYard:
    """A yard that keeps its log alone and works everything out from it each time."""

    def __init__(self, log=()):
        self.log = list(log)

    def held(self):
        nodes, edges = {}, {}
        for word, *rest in self.log:
            if word in ("add", "weigh"):
                nodes[rest[0]] = rest[1]
            elif word in ("join", "stretch"):
                edges[frozenset(rest[:2])] = rest[2]
            else:
                del edges[frozenset(rest)]
        return nodes, edges

    def trees(self):
        nodes, edges = self.held()
        found, left = [], sorted(nodes)
        while left:
            names = {left[0]}
            for _ in nodes:
                names |= {name for edge in edges if edge & names for name in edge}
            found.append(tree([(name, nodes[name]) for name in names],
                              [(*edge, edges[edge]) for edge in edges if edge <= names]))
            left = [name for name in left if name not in names]
        return found

    def fault(self, deed):
        """The what of the first error that applies to a deed, or None."""
        nodes, edges = self.held()
        word, *rest = deed
        names = rest[:1] if word in ("add", "weigh") else rest[:2]
        edge = frozenset(names)
        number = rest[-1]
        least = 0 if word in ("add", "weigh") else 1
        letters = "abcdefghijklmnopqrstuvwxyz"
        plain = [0 < len(name) < 9 and name[0] in letters and set(name) <= set(letters + "0123456789")
                 for name in names]
        for what, applies in (
                ("wrong name", not all(plain)), ("known", word == "add" and names[0] in nodes),
                ("full", word == "add" and len(nodes) == 12),
                ("unknown", word != "add" and not set(names) <= set(nodes)),
                ("one tree", word == "join" and any(edge <= {row[0] for row in part[0]} for part in self.trees())),
                ("no edge", word in ("cut", "stretch") and edge not in edges),
                ("wrong number", word != "cut" and not least <= number <= 999)):
            if applies:
                return what
        return None

    def do(self, deed):
        what = self.fault(deed)
        if what is None:
            self.log.append(deed)
        return what


def made(log=DEEDS):
    yard = Yard()
    for deed in log:
        assert done(yard, deed) is None, deed
    return yard


def full():
    return made([("add", name, k) for k, name in enumerate(NAMES)])


class Yards(unittest.TestCase):
    def faulty(self, yard, deed, what):
        """Check that a deed raises this fault and changes nothing."""
        trees, log = yard.trees, yard.log
        with self.assertRaises(YardError) as caught:
            getattr(yard, deed[0])(*deed[1:])
        self.assertEqual(caught.exception.what, what, deed)
        self.assertIsInstance(caught.exception, TreeError)
        self.assertEqual((yard.trees, yard.log), (trees, log))
        self.assertEqual(yard, replayed(log))


class TestDeeds(Yards):
    def test_an_empty_yard(self):
        yard = Yard()
        self.assertEqual((yard.trees, yard.log, len(yard), yard.undo()), ([], [], 0, False))
        self.assertNotIn("a", yard)

    def test_add(self):
        yard = made([("add", "b", 0), ("add", "a", 999)])
        self.assertEqual(yard.trees, [((("a", 999),), ()), ((("b", 0),), ())])

    def test_join(self):
        yard = made([("add", "b", 0), ("add", "a", 1), ("join", "b", "a", 999)])
        self.assertEqual(yard.trees, [((("a", 1), ("b", 0)), (("a", "b", 999),))])
        yard = made([("add", "b", 0), ("add", "a", 1), ("join", "a", "b", 1)])
        self.assertEqual(yard.trees, [((("a", 1), ("b", 0)), (("a", "b", 1),))])

    def test_cut_with_the_names_in_either_order(self):
        for deed in (("cut", "a", "b"), ("cut", "b", "a")):
            yard = made([("add", "b", 0), ("add", "a", 1), ("join", "b", "a", 9), deed])
            self.assertEqual(yard.trees, [((("a", 1),), ()), ((("b", 0),), ())])

    def test_stretch_with_the_names_in_either_order(self):
        for deed in (("stretch", "a", "b", 1), ("stretch", "b", "a", 1)):
            yard = made([("add", "b", 0), ("add", "a", 1), ("join", "b", "a", 9), deed])
            self.assertEqual(yard.trees, [((("a", 1), ("b", 0)), (("a", "b", 1),))])

    def test_weigh(self):
        for weight in (0, 1, 999):
            yard = made([("add", "b", 5), ("add", "a", 1), ("join", "b", "a", 9), ("weigh", "b", weight)])
            self.assertEqual(yard.trees, [((("a", 1), ("b", weight)), (("a", "b", 9),))])

    def test_deeds_that_change_nothing_are_done_all_the_same(self):
        yard = made([("add", "b", 5), ("weigh", "b", 5), ("weigh", "b", 5)])
        self.assertEqual(len(yard.log), 3)
        self.assertEqual([yard.undo(), yard.undo(), yard.undo(), yard.undo()], ["weigh", "weigh", "add", False])

    def test_trees_are_ordered_by_their_first_nodes(self):
        yard = made([("add", name, 0) for name in "edcba"] + [("join", "e", "a", 1), ("join", "d", "c", 2)])
        self.assertEqual([[row[0] for row in part[0]] for part in yard.trees], [["a", "e"], ["b"], ["c", "d"]])

    def test_several_deeds(self):
        yard = made()
        self.assertEqual(yard.trees, [((("a", 999), ("b", 2), ("c", 0)), (("a", "c", 1), ("b", "c", 5)))])

    def test_twelve_nodes_in_one_tree(self):
        yard = full()
        for name in NAMES[1:]:
            yard.join(name, NAMES[0], 3)
        self.assertEqual(yard.trees, [tree([(name, k) for k, name in enumerate(NAMES)],
                                           [(NAMES[0], name, 3) for name in NAMES[1:]])])


class TestFaults(Yards):
    def test_add(self):
        yard = made([("add", "a", 1)])
        for name in WRONG_NAMES:
            self.faulty(yard, ("add", name, 1), "wrong name")
            self.faulty(yard, ("add", name, 1000), "wrong name")
        self.faulty(yard, ("add", "a", 1), "known")
        self.faulty(yard, ("add", "a", -1), "known")
        for weight in (-1, 1000, -10 ** 6, 10 ** 6):
            self.faulty(yard, ("add", "b", weight), "wrong number")
        yard.add("b", 0)
        yard.add("c", 999)

    def test_full(self):
        yard = full()
        self.faulty(yard, ("add", "q", 1), "full")
        self.faulty(yard, ("add", "q", 1000), "full")
        self.faulty(yard, ("add", NAMES[3], 1), "known")
        self.faulty(yard, ("add", "Q", 1), "wrong name")
        self.assertEqual(yard.undo(), "add")
        yard.add("q", 1)
        self.faulty(yard, ("add", NAMES[-1], 1), "full")

    def test_join(self):
        yard = made([("add", "a", 1), ("add", "b", 1), ("add", "c", 1), ("join", "a", "b", 5)])
        for name in WRONG_NAMES:
            self.faulty(yard, ("join", name, "a", 1), "wrong name")
            self.faulty(yard, ("join", "a", name, 1), "wrong name")
            self.faulty(yard, ("join", "q", name, 0), "wrong name")
            self.faulty(yard, ("join", name, "q", 0), "wrong name")
        for names in (("q", "a"), ("a", "q"), ("q", "q"), ("q", "r")):
            self.faulty(yard, ("join", *names, 1), "unknown")
            self.faulty(yard, ("join", *names, 0), "unknown")
        for names in (("a", "b"), ("b", "a"), ("a", "a"), ("c", "c")):
            self.faulty(yard, ("join", *names, 1), "one tree")
            self.faulty(yard, ("join", *names, 1000), "one tree")
        for length in (0, -1, 1000):
            self.faulty(yard, ("join", "b", "c", length), "wrong number")

    def test_nodes_of_one_tree_that_are_no_neighbors(self):
        yard = made([("add", name, 1) for name in "abcd"] + [("join", "a", "b", 5), ("join", "b", "c", 5)])
        self.faulty(yard, ("join", "a", "c", 1), "one tree")
        self.faulty(yard, ("join", "c", "a", 0), "one tree")
        self.faulty(yard, ("cut", "a", "c"), "no edge")
        yard.join("a", "d", 1)

    def test_cut(self):
        yard = made([("add", "a", 1), ("add", "b", 1), ("add", "c", 1), ("join", "a", "b", 5)])
        for name in WRONG_NAMES:
            self.faulty(yard, ("cut", name, "a"), "wrong name")
            self.faulty(yard, ("cut", "q", name), "wrong name")
        for names in (("q", "a"), ("a", "q"), ("q", "q")):
            self.faulty(yard, ("cut", *names), "unknown")
        for names in (("a", "c"), ("c", "b"), ("a", "a")):
            self.faulty(yard, ("cut", *names), "no edge")

    def test_stretch(self):
        yard = made([("add", "a", 1), ("add", "b", 1), ("add", "c", 1), ("join", "a", "b", 5)])
        for name in WRONG_NAMES:
            self.faulty(yard, ("stretch", name, "a", 1), "wrong name")
            self.faulty(yard, ("stretch", "q", name, 0), "wrong name")
        for names in (("q", "a"), ("a", "q"), ("q", "q")):
            self.faulty(yard, ("stretch", *names, 0), "unknown")
        for names in (("a", "c"), ("c", "b"), ("a", "a")):
            self.faulty(yard, ("stretch", *names, 1), "no edge")
            self.faulty(yard, ("stretch", *names, 0), "no edge")
        for length in (0, -1, 1000):
            self.faulty(yard, ("stretch", "a", "b", length), "wrong number")
            self.faulty(yard, ("stretch", "b", "a", length), "wrong number")

    def test_weigh(self):
        yard = made([("add", "a", 1)])
        for name in WRONG_NAMES:
            self.faulty(yard, ("weigh", name, 1), "wrong name")
            self.faulty(yard, ("weigh", name, -1), "wrong name")
        self.faulty(yard, ("weigh", "b", 1), "unknown")
        self.faulty(yard, ("weigh", "b", 1000), "unknown")
        for weight in (-1, 1000):
            self.faulty(yard, ("weigh", "a", weight), "wrong number")

    def test_many_deeds_against_a_slow_yard(self):
        names = ["a", "b", "c", "d", "e", "f", "Z"]
        yard, slow = Yard(), SlowYard()
        state = 7
        seen = set()
        for turn in range(3000):
            state = (state * 1103515245 + 12345) % 2 ** 31
            pick = state // 65536
            one, two = names[pick % 7], names[pick // 7 % 7]
            number = (0, 1, 5, 999, 1000, 77, 3)[pick // 49 % 7]
            deed = (("add", one, number), ("join", one, two, number), ("cut", one, two),
                    ("stretch", one, two, number), ("weigh", one, number))[pick // 343 % 5]
            if turn % 7 == 5:
                self.assertEqual(yard.undo(), slow.log.pop()[0] if slow.log else False)
            else:
                what = slow.do(deed)
                self.assertEqual(done(yard, deed), what, deed)
                seen.add((deed[0], what))
            self.assertEqual(yard.log, slow.log)
            self.assertEqual(yard.trees, slow.trees())
            self.assertEqual(len(yard), len(slow.held()[0]))
            if turn % 500 == 499:
                yard, slow = yard.branch(), SlowYard(yard.log)
        # All that can happen but "full": 4 outcomes of add, 5 of join, 4 of cut, 5 of stretch, 4 of weigh.
        self.assertEqual(len(seen), 22)

class TestUndo(Yards):
    def test_each_deed(self):
        for count in range(1, len(DEEDS) + 1):
            yard, before = made(DEEDS[:count]), made(DEEDS[:count - 1])
            self.assertEqual(yard.undo(), DEEDS[count - 1][0])
            self.assertEqual((yard.trees, yard.log), (before.trees, before.log))

    def test_several_in_a_row(self):
        yard = made()
        for count in range(len(DEEDS), 0, -1):
            self.assertEqual(yard.trees, made(DEEDS[:count]).trees)
            self.assertEqual(yard.undo(), DEEDS[count - 1][0])
        self.assertEqual((yard.trees, yard.log, len(yard)), ([], [], 0))

    def test_none(self):
        yard = Yard()
        self.assertIs(yard.undo(), False)
        yard.add("a", 1)
        yard.undo()
        self.assertIs(yard.undo(), False)
        self.assertEqual((yard.trees, yard.log), ([], []))

    def test_a_deed_that_failed_is_not_taken_back(self):
        yard = made([("add", "a", 1), ("weigh", "a", 5)])
        self.faulty(yard, ("weigh", "a", 1000), "wrong number")
        self.assertEqual(yard.undo(), "weigh")
        self.assertEqual(yard.trees, [((("a", 1),), ())])

    def test_cutting_undoing_and_joining_again(self):
        yard = made([("add", "a", 1), ("add", "b", 2), ("join", "a", "b", 5), ("cut", "a", "b")])
        self.assertEqual(yard.undo(), "cut")
        self.assertEqual(yard.distance("a", "b"), 5)
        self.faulty(yard, ("join", "a", "b", 6), "one tree")
        yard.cut("b", "a")
        self.assertIsNone(yard.distance("a", "b"))
        yard.join("b", "a", 6)
        self.assertEqual(yard.distance("a", "b"), 6)
        self.assertEqual([yard.undo(), yard.undo(), yard.undo(), yard.undo()], ["join", "cut", "join", "add"])
        self.assertEqual(yard.trees, [((("a", 1),), ())])
        self.faulty(yard, ("join", "a", "b", 5), "unknown")

    def test_other_deeds_behind_it(self):
        yard = made(DEEDS[:4])
        yard.undo()
        yard.undo()
        yard.add("d", 3)
        self.assertEqual(yard.log, DEEDS[:2] + [("add", "d", 3)])
        self.assertEqual(yard, made(DEEDS[:2] + [("add", "d", 3)]))


class TestAsking(Yards):
    def test_log(self):
        self.assertEqual(made().log, DEEDS)
        self.assertEqual([type(deed) for deed in made().log], [tuple] * len(DEEDS))

    def test_tree_with(self):
        yard = made(DEEDS[:4])
        ab = ((("a", 1), ("b", 2)), (("a", "b", 7),))
        self.assertEqual((yard.tree_with("a"), yard.tree_with("b")), (ab, ab))
        self.assertEqual(yard.tree_with("c"), ((("c", 0),), ()))

    def test_tree_with_unknown_names(self):
        for yard in (Yard(), made()):
            for name in ("q", "d") + WRONG_NAMES:
                with self.assertRaises(YardError) as caught:
                    yard.tree_with(name)
                self.assertEqual(caught.exception.what, "unknown")

    def test_distance(self):
        yard = made()
        for one, two in itertools.product("abc", repeat=2):
            self.assertEqual(yard.distance(one, two), slow_distance(yard.trees[0], one, two))
        self.assertEqual(yard.distance("a", "b"), 6)

    def test_distance_of_different_trees(self):
        yard = made(DEEDS[:4])
        for one, two in (("a", "c"), ("c", "a"), ("c", "b")):
            self.assertIsNone(yard.distance(one, two))
        self.assertEqual((yard.distance("c", "c"), yard.distance("b", "a")), (0, 7))

    def test_distance_of_unknown_names(self):
        yard = made()
        for name in ("q", "d") + WRONG_NAMES:
            for one, two in ((name, "a"), ("a", name), (name, name)):
                with self.assertRaises(YardError) as caught:
                    yard.distance(one, two)
                self.assertEqual(caught.exception.what, "unknown")

    def test_asking_is_no_deed(self):
        yard = made()
        yard.tree_with("a"), yard.distance("a", "c"), yard.branch(), len(yard), "a" in yard, yard == yard
        self.assertEqual(yard.log, DEEDS)

    def test_length(self):
        for count, wanted in zip(range(len(DEEDS) + 1), (0, 1, 2, 2, 3, 3, 3, 3, 3, 3)):
            self.assertEqual(len(made(DEEDS[:count])), wanted)
        self.assertEqual(len(full()), 12)

    def test_membership_of_any_value(self):
        yard = made()
        for name in "abc":
            self.assertIs(name in yard, True)
        for value in ("d", "", "A", "ab", 1, 0, None, True, 1.5, [], ["a"], {}, {"a": 1}, set(), ("a",), ("a", 999), b"a",
                      yard, Yard, len, object()):
            self.assertIs(value in yard, False, value)
            self.assertIs(value in Yard(), False, value)

    def test_membership_of_a_value_that_equals_all_or_fails(self):
        class Same:
            def __eq__(self, other):
                return True

        class Broken:
            def __eq__(self, other):
                raise ZeroDivisionError

        for value in (Same(), Broken()):
            self.assertIs(value in made(), False)

    def test_properties_have_no_setters(self):
        yard = made()
        for name in ("trees", "log"):
            with self.assertRaises(AttributeError):
                setattr(yard, name, [])
            with self.assertRaises(AttributeError):
                delattr(yard, name)
            self.assertIsInstance(Yard.__dict__[name], property)
            self.assertIsNone(Yard.__dict__[name].fset)

    def test_all_methods_stand_in_the_class_itself(self):
        for name, arguments in (("add", ["name", "weight"]), ("join", ["first", "second", "length"]),
                                ("cut", ["first", "second"]), ("stretch", ["first", "second", "length"]),
                                ("weigh", ["name", "weight"]), ("undo", []), ("tree_with", ["name"]),
                                ("distance", ["first", "second"]), ("branch", [])):
            method = Yard.__dict__[name]
            self.assertEqual(list(inspect.signature(method).parameters)[1:], arguments, name)
        for name in ("__len__", "__contains__", "__eq__"):
            self.assertIn(name, Yard.__dict__)
        self.assertEqual(list(inspect.signature(Yard).parameters), [])


class TestBranch(Yards):
    def test_it_is_like_its_origin(self):
        for count in range(len(DEEDS) + 1):
            yard = made(DEEDS[:count])
            other = yard.branch()
            self.assertIs(type(other), Yard)
            self.assertIsNot(other, yard)
            self.assertEqual((other.trees, other.log, other), (yard.trees, yard.log, yard))

    def test_it_goes_its_own_way(self):
        yard = made()
        other = yard.branch()
        other.add("d", 4)
        other.cut("a", "c")
        self.assertEqual((yard.trees, yard.log), (made().trees, DEEDS))
        yard.weigh("a", 0)
        yard.undo()
        yard.undo()
        self.assertEqual(yard.log, DEEDS[:-1])
        self.assertEqual(other.log, DEEDS + [("add", "d", 4), ("cut", "a", "c")])
        self.assertEqual(other, made(DEEDS + [("add", "d", 4), ("cut", "a", "c")]))

    def test_it_takes_back_what_its_origin_did(self):
        yard = made()
        other = yard.branch()
        self.assertEqual([other.undo() for _ in range(len(DEEDS) + 1)], [deed[0] for deed in DEEDS[::-1]] + [False])
        self.assertEqual((other.trees, yard), ([], made()))


class TestEquality(Yards):
    def test_yards_with_other_logs(self):
        yard = made([("add", "a", 1), ("add", "b", 2), ("join", "a", "b", 3)])
        for log in ([("add", "b", 2), ("add", "a", 1), ("join", "b", "a", 3)],
                    [("add", "a", 0), ("add", "b", 2), ("join", "a", "b", 9), ("weigh", "a", 1), ("stretch", "b", "a", 3)]):
            self.assertTrue(yard == made(log))
            self.assertFalse(yard != made(log))
        self.assertTrue(Yard() == Yard())

    def test_yards_that_hold_other_trees(self):
        yard = made([("add", "a", 1), ("add", "b", 2), ("join", "a", "b", 3)])
        for log in ([], [("add", "a", 1), ("add", "b", 2)], [("add", "a", 1), ("add", "c", 2), ("join", "a", "c", 3)],
                    [("add", "a", 1), ("add", "b", 1), ("join", "a", "b", 3)],
                    [("add", "a", 1), ("add", "b", 2), ("join", "a", "b", 4)],
                    [("add", "a", 1), ("add", "b", 2), ("join", "a", "b", 3), ("add", "c", 0)]):
            self.assertFalse(yard == made(log))
            self.assertTrue(yard != made(log))

    def test_values_that_are_no_yards(self):
        yard = made()
        for other in (1, None, "a", yard.trees, yard.log, object()):
            self.assertIs(Yard.__eq__(yard, other), NotImplemented)
            self.assertFalse(yard == other)
            self.assertTrue(yard != other)

    def test_no_hash(self):
        with self.assertRaises(TypeError):
            hash(made())


class TestReplayed(Yards):
    def test_logs(self):
        for count in range(len(DEEDS) + 1):
            yard = replayed(DEEDS[:count])
            self.assertIs(type(yard), Yard)
            self.assertEqual((yard.trees, yard.log), (made(DEEDS[:count]).trees, DEEDS[:count]))

    def test_what_was_done_again_can_be_taken_back(self):
        yard = replayed(made().log)
        self.assertEqual([yard.undo() for _ in range(len(DEEDS) + 1)], [deed[0] for deed in DEEDS[::-1]] + [False])

    def test_the_first_error_of_a_wrong_log(self):
        for deed, what in ((("add", "A", 1), "wrong name"), (("add", "a", 1), "known"), (("join", "a", "d", 1), "unknown"),
                           (("join", "a", "b", 1), "one tree"), (("cut", "a", "b"), "no edge"),
                           (("stretch", "a", "c", 0), "wrong number"), (("weigh", "a", 1000), "wrong number")):
            for behind in ([], [("add", "", 1)], [("cut", "x", "y")]):
                with self.assertRaises(YardError) as caught:
                    replayed(DEEDS + [deed] + behind)
                self.assertEqual(caught.exception.what, what, deed)

    def test_a_full_yard(self):
        with self.assertRaises(YardError) as caught:
            replayed(full().log + [("add", "q", 1)])
        self.assertEqual(caught.exception.what, "full")


class TestLists(Yards):
    def test_changing_an_answer_does_not_change_the_yard(self):
        yard = made()
        for _ in range(2):
            self.assertEqual((yard.trees, yard.log), (made().trees, DEEDS))
            yard.trees.append("spoiled")
            yard.trees.clear()
            yard.log.append(("add", "z", 1))
            yard.log.clear()

    def test_lists_that_were_told_do_not_change_with_the_yard(self):
        yard = made()
        trees, log = yard.trees, yard.log
        yard.undo()
        yard.weigh("a", 1)
        self.assertEqual((trees, log), (made().trees, DEEDS))

    def test_a_log_that_is_passed_stays_as_it_is(self):
        log = list(DEEDS)
        yard = replayed(log)
        yard.undo()
        self.assertEqual(log, DEEDS)
        log.clear()
        self.assertEqual(yard.log, DEEDS[:-1])


if __name__ == "__main__":
    unittest.main()
