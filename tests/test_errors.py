"""The classes of treeserved.errors and the integers of treeserved.limits."""

import unittest

from treeserved import errors, limits
from treeserved.errors import LineError, MetricError, RouteError, ShapeError, TreeError, YardError

OTHERS = (ShapeError, LineError, MetricError, RouteError, YardError)


class TestErrors(unittest.TestCase):
    def test_tree_error_derives_from_value_error(self):
        self.assertEqual(TreeError.__bases__, (ValueError,))

    def test_the_others_derive_from_tree_error_alone(self):
        for one in OTHERS:
            self.assertEqual(one.__bases__, (TreeError,), one)

    def test_none_of_the_others_is_a_base_of_another(self):
        for one in OTHERS:
            for other in OTHERS:
                self.assertEqual(issubclass(one, other), one is other, (one, other))

    def test_classes_are_defined_in_their_file(self):
        for one in OTHERS + (TreeError,):
            self.assertEqual(one.__module__, "treeserved.errors")
            self.assertIs(getattr(errors, one.__name__), one)

    def test_shape_error_has_what_and_place(self):
        fault = ShapeError("wrong name", 3)
        self.assertEqual((fault.what, fault.place), ("wrong name", 3))

    def test_line_error_has_what_and_line(self):
        fault = LineError("not understood", 7)
        self.assertEqual((fault.what, fault.line), ("not understood", 7))

    def test_metric_error_has_what_and_place(self):
        fault = MetricError("no pairs", -1)
        self.assertEqual((fault.what, fault.place), ("no pairs", -1))

    def test_route_error_has_what(self):
        self.assertEqual(RouteError("other sum").what, "other sum")

    def test_yard_error_has_what(self):
        self.assertEqual(YardError("one tree").what, "one tree")

    def test_attributes_are_those_that_are_listed_and_no_others(self):
        self.assertEqual(vars(ShapeError("w", 1)), {"what": "w", "place": 1})
        self.assertEqual(vars(LineError("w", 1)), {"what": "w", "line": 1})
        self.assertEqual(vars(MetricError("w", 1)), {"what": "w", "place": 1})
        self.assertEqual(vars(RouteError("w")), {"what": "w"})
        self.assertEqual(vars(YardError("w")), {"what": "w"})

    def test_attributes_belong_to_each_object(self):
        first, second = ShapeError("wrong name", 0), ShapeError("not joined", 1)
        self.assertEqual((first.what, first.place), ("wrong name", 0))
        self.assertEqual((second.what, second.place), ("not joined", 1))

    def test_each_is_caught_as_tree_error_and_as_value_error(self):
        made = (ShapeError("w", 0), LineError("w", 1), MetricError("w", -1), RouteError("w"), YardError("w"))
        for kind in (TreeError, ValueError):
            for fault in made:
                with self.assertRaises(kind) as caught:
                    raise fault
                self.assertIs(caught.exception, fault)
            with self.assertRaises(kind):
                raise TreeError("w")

    def test_the_message_tells_what(self):
        for fault in (ShapeError("odd", 0), LineError("odd", 1), MetricError("odd", -1), RouteError("odd"),
                      YardError("odd")):
            self.assertIn("odd", str(fault))

    def test_each_takes_the_values_of_its_attributes_and_no_more(self):
        for kind, values in ((ShapeError, ("w",)), (ShapeError, ("w", 1, 2)), (LineError, ("w",)),
                             (MetricError, ("w",)), (RouteError, ()), (RouteError, ("w", 1)), (YardError, ())):
            with self.assertRaises(TypeError):
                kind(*values)


class TestLimits(unittest.TestCase):
    def test_values(self):
        wanted = {"NODES": 12, "GREAT": 999, "LETTERS": 8, "GROUPS": 12, "TABLE": 7, "FAR": 20000, "LOAD": 999}
        for name, value in wanted.items():
            self.assertEqual(getattr(limits, name), value, name)
            self.assertIs(type(getattr(limits, name)), int, name)


if __name__ == "__main__":
    unittest.main()
