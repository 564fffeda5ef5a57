"""The form of the package (as far as a test can see it), its interface, and the examples of README.md."""

import ast
import builtins
import doctest
import inspect
import os
import unittest

from treeserved import (alike, centers, courts, errors, groups, loads, metrics, parts, places, routes, stands, trees,
                        treetext, yards)

TOP = os.path.dirname(os.path.dirname(os.path.abspath(__file__)))
PACKAGE = os.path.join(TOP, "treeserved")
BUILTINS = {word for word in dir(builtins) if not word.startswith("__")}
LIBRARY = {"heapq", "math", "itertools", "collections", "__future__"}
FUNCTIONS = {
    trees: {
        "tree": ["nodes", "edges"],
        "names_of": ["some_tree"],
        "weight_of": ["some_tree", "name"],
        "neighbors": ["some_tree", "name"],
        "path": ["some_tree", "first", "second"],
        "distance": ["some_tree", "first", "second"],
        "meeting": ["some_tree", "first", "second", "third"],
        "sides": ["some_tree", "first", "second"],
        "is_group": ["some_tree", "names"],
    },
    treetext: {
        "format_tree": ["some_tree"],
        "read_tree": ["text"],
    },
    places: {
        "place_on": ["some_tree", "first", "second", "offset"],
        "between": ["some_tree", "place", "other"],
        "reach": ["some_tree", "place"],
        "load": ["some_tree", "place"],
    },
    centers: {
        "farthest_pair": ["some_tree"],
        "center": ["some_tree"],
        "radius": ["some_tree"],
        "shows_radius": ["some_tree", "pair", "least"],
        "medians": ["some_tree"],
        "branches": ["some_tree", "name"],
        "is_median": ["some_tree", "name"],
    },
    groups: {
        "hit": ["some_tree", "groups"],
        "top_of": ["some_tree", "group"],
        "are_hit": ["groups", "names"],
        "are_apart": ["groups", "indices"],
        "common": ["some_tree", "groups"],
    },
    stands: {
        "stands": ["some_tree", "far"],
        "least_distance": ["some_tree", "many"],
        "do_serve": ["some_tree", "names", "far"],
        "are_too_far": ["some_tree", "names", "far"],
        "served": ["some_tree", "names"],
    },
    alike: {
        "renamed": ["some_tree", "names"],
        "normal_form": ["some_tree"],
        "renaming": ["some_tree", "other"],
        "shows_alike": ["some_tree", "other", "names"],
    },
    metrics: {
        "table": ["pairs"],
        "table_of": ["some_tree", "names"],
        "distance_in": ["some_table", "first", "second"],
        "breaks_rule": ["some_table", "names"],
        "four_places": ["some_table"],
        "three_places": ["some_table"],
        "grown": ["some_table"],
    },
    routes: {
        "needed": ["some_tree", "start", "wanted"],
        "walk_length": ["some_tree", "walk"],
        "round_of": ["some_tree", "start", "wanted"],
        "trip_of": ["some_tree", "start", "wanted"],
        "round_reason": ["some_tree", "start", "wanted"],
        "trip_reason": ["some_tree", "start", "wanted"],
    },
    loads: {
        "flow": ["some_tree", "first", "second"],
        "cost": ["some_tree", "first", "second"],
        "plan": ["some_tree", "first", "second"],
        "prices": ["some_tree", "first", "second"],
    },
    parts: {
        "cuts": ["some_tree", "bound"],
        "parts_of": ["some_tree", "edges"],
        "ledger": ["some_tree", "bound"],
        "is_right": ["some_tree", "bound", "rows"],
    },
    yards: {
        "replayed": ["log"],
    },
    courts: {
        "about_center": ["some_tree"],
        "about_median": ["some_tree"],
        "about_groups": ["some_tree", "family"],
        "about_stands": ["some_tree", "far"],
        "about_table": ["some_table"],
        "about_trees": ["some_tree", "other"],
        "about_round": ["some_tree", "start", "wanted"],
        "about_loads": ["some_tree", "first", "second"],
        "about_parts": ["some_tree", "bound"],
        "judge": ["claim"],
        "judge_all": ["claims"],
    },
}
CLASSES = {
    errors: ["TreeError", "ShapeError", "LineError", "MetricError", "RouteError", "YardError"],
    yards: ["Yard"],
}
# L8: the builtins that may be called, without those that print, read attributes by name, or make floats and bytes.
CALLED = {
    "len", "range", "enumerate", "zip", "min", "max", "sum", "abs", "sorted", "reversed", "int", "str", "bool", "list",
    "tuple", "dict", "set", "isinstance", "any", "all",
}
# L25: the methods of builtin values that may be called, and L28: the one of a base class.
METHODS = {
    "append", "clear", "copy", "count", "endswith", "extend", "find", "get", "index", "insert", "isalnum", "isalpha",
    "isdigit", "islower", "isspace", "isupper", "items", "join", "keys", "ljust", "lower", "lstrip", "partition",
    "pop", "remove", "replace", "reverse", "rfind", "rjust", "rpartition", "rsplit", "rstrip", "setdefault", "split",
    "splitlines", "startswith", "strip", "update", "upper", "values", "zfill", "__init__",
}
# L6, L7, L13 and more: parts of the language that the package does without.
UNUSED = (
    ast.Lambda, ast.GeneratorExp, ast.Global, ast.Nonlocal, ast.Delete, ast.With, ast.Match, ast.Yield, ast.YieldFrom,
    ast.NamedExpr, ast.AsyncFunctionDef, ast.Await, ast.AnnAssign, ast.Assert,
)
# L17: names that are given to nothing.
BARRED = {
    "register", "mro", "elements", "open", "input", "law", "version_info", "with_traceback", "add_note", "attrgetter",
    "builtins", "gc", "importlib", "methodcaller", "os", "sys", "typing", "typing_extensions", "enum", "Enum",
    "IntEnum", "StrEnum", "Flag", "IntFlag", "Generic", "Protocol", "ABC", "ABCMeta", "namedtuple", "NamedTuple",
    "TypedDict", "TYPE_CHECKING", "abstractmethod", "dataclass", "overload", "contextmanager",
}


def files():
    """The names and texts of the files of the package."""
    found = {}
    for name in sorted(os.listdir(PACKAGE)):
        if name != "__pycache__":
            with open(os.path.join(PACKAGE, name), encoding="utf-8", newline="") as held:
                found[name] = held.read()
    return found


def bound(node):
    """The names that a part of a program gives to something."""
    if isinstance(node, (ast.FunctionDef, ast.ClassDef)):
        return [node.name]
    if isinstance(node, ast.arg):
        return [node.arg]
    if isinstance(node, ast.Name) and isinstance(node.ctx, ast.Store):
        return [node.id]
    if isinstance(node, ast.ExceptHandler) and node.name:
        return [node.name]
    return []


class TestForm(unittest.TestCase):
    def test_the_folder_holds_nothing_but_python_files(self):
        for name in files():
            self.assertRegex(name, r"^[a-z_]+\.py$")
        self.assertIn("__init__.py", files())

    def test_characters_lines_and_sizes(self):
        for name, text in files().items():
            self.assertTrue(all(sign == "\n" or " " <= sign <= "~" for sign in text), name)
            self.assertLessEqual(len(text.splitlines()), 399, name)
            self.assertLessEqual(max(len(line) for line in text.splitlines()), 120, name)

    def test_functions_have_at_most_forty_lines(self):
        for name, text in files().items():
            for node in ast.walk(ast.parse(text)):
                if isinstance(node, ast.FunctionDef):
                    self.assertLessEqual(node.end_lineno - node.lineno + 1, 40, (name, node.name))

    def test_imports_name_the_package_or_the_few_allowed_modules(self):
        for name, text in files().items():
            for node in ast.walk(ast.parse(text)):
                self.assertNotIsInstance(node, ast.Import, name)
                if isinstance(node, ast.ImportFrom):
                    self.assertTrue(node.module.startswith("treeserved.") or node.module in LIBRARY, name)
                    self.assertEqual(node.level, 0)

    def test_no_name_of_a_builtin_is_given_another_meaning(self):
        for name, text in files().items():
            for node in ast.walk(ast.parse(text)):
                for word in bound(node):
                    self.assertNotIn(word, BUILTINS, name)

    def test_names_are_plain_and_none_is_barred(self):
        for name, text in files().items():
            for node in ast.walk(ast.parse(text)):
                for word in bound(node):
                    self.assertNotIn(word, BARRED, name)
                    self.assertRegex(word, r"^_?[A-Za-z][A-Za-z0-9_]*$|^__[a-z]+__$|^_$", name)

    def test_a_name_of_an_import_is_given_no_other_meaning(self):
        for name, text in files().items():
            parts = list(ast.walk(ast.parse(text)))
            imported = [one.name for node in parts if isinstance(node, ast.ImportFrom) for one in node.names]
            self.assertEqual(len(imported), len(set(imported)), name)
            self.assertEqual(set(imported) & {word for node in parts for word in bound(node)}, set(), name)

    def test_no_two_files_import_from_each_other(self):
        above = {}
        for name, text in files().items():
            above["treeserved." + name[:-3]] = {
                node.module for node in ast.walk(ast.parse(text)) if isinstance(node, ast.ImportFrom)} - LIBRARY
        while above:
            free = [name for name in above if not above[name] & set(above)]
            self.assertNotEqual(free, [], above)
            above = {name: above[name] for name in above if name not in free}

    def test_no_percent_sign_no_float_and_no_slash(self):
        for name, text in files().items():
            for node in ast.walk(ast.parse(text)):
                self.assertNotIsInstance(node, ast.Div, name)
                if isinstance(node, ast.Constant):
                    self.assertNotIsInstance(node.value, float, name)
                    self.assertFalse(isinstance(node.value, str) and chr(37) in node.value, name)


    def test_parts_of_the_language_that_are_not_used(self):
        for name, text in files().items():
            for node in ast.walk(ast.parse(text)):
                self.assertNotIsInstance(node, UNUSED, name)

    def test_a_module_has_only_imports_names_functions_and_classes(self):
        for name, text in files().items():
            for node in ast.parse(text).body:
                self.assertIsInstance(node, (ast.Expr, ast.ImportFrom, ast.Assign, ast.FunctionDef, ast.ClassDef), name)
                if isinstance(node, ast.Expr):
                    self.assertIsInstance(node.value, ast.Constant)
                if isinstance(node, ast.ClassDef):
                    self.assertEqual({type(part) for part in node.body} - {ast.FunctionDef, ast.Expr, ast.Pass}, set())

    def test_only_properties_have_a_decorator_and_no_function_is_nested(self):
        for name, text in files().items():
            for node in ast.walk(ast.parse(text)):
                if isinstance(node, ast.FunctionDef):
                    self.assertIn([ast.unparse(one) for one in node.decorator_list], ([], ["property"]), name)
                    inside = [part for part in ast.walk(node) if isinstance(part, (ast.FunctionDef, ast.ClassDef))]
                    self.assertEqual(inside, [node], name)

    def test_names_that_are_called(self):
        for name, text in files().items():
            parts = list(ast.walk(ast.parse(text)))
            known = {word for node in parts for word in bound(node)} | CALLED
            known |= {one.name for node in parts if isinstance(node, ast.ImportFrom) for one in node.names}
            for node in parts:
                if isinstance(node, ast.Call) and isinstance(node.func, ast.Name):
                    self.assertIn(node.func.id, known, name)

    def test_methods_that_are_called(self):
        own = set()
        for text in files().values():
            classes = [node for node in ast.walk(ast.parse(text)) if isinstance(node, ast.ClassDef)]
            own |= {part.name for node in classes for part in node.body if isinstance(part, ast.FunctionDef)}
        for name, text in files().items():
            for node in ast.walk(ast.parse(text)):
                if isinstance(node, ast.Call) and isinstance(node.func, ast.Attribute):
                    self.assertIn(node.func.attr, METHODS | own, name)

    def test_keywords_of_calls(self):
        for name, text in files().items():
            for node in ast.walk(ast.parse(text)):
                if isinstance(node, ast.Call) and node.keywords:
                    self.assertIn((node.func.id, [one.arg for one in node.keywords]), [("enumerate", ["start"])], name)

    def test_sets_stand_only_where_they_are_sorted_measured_or_asked(self):
        for name, text in files().items():
            parts = list(ast.walk(ast.parse(text)))
            fine = [one for node in parts if isinstance(node, ast.Call) and ast.unparse(node.func) in ("sorted", "len")
                    for one in node.args]
            fine += [one for node in parts if isinstance(node, ast.Compare) for one in node.comparators]
            for node in parts:
                if isinstance(node, (ast.Set, ast.SetComp)) or isinstance(node, ast.Call) and \
                        ast.unparse(node.func) in ("set", "frozenset"):
                    self.assertIn(node, fine, (name, node.lineno))

    def test_is_stands_only_beside_none_true_and_false(self):
        for name, text in files().items():
            for node in ast.walk(ast.parse(text)):
                if isinstance(node, ast.Compare) and any(isinstance(sign, (ast.Is, ast.IsNot)) for sign in node.ops):
                    self.assertIn(ast.unparse(node.comparators[0]), ("None", "True", "False"), name)

    def test_handlers_name_own_errors(self):
        for name, text in files().items():
            for node in ast.walk(ast.parse(text)):
                if isinstance(node, ast.ExceptHandler):
                    self.assertIn(ast.unparse(node.type), CLASSES[errors], name)
                if isinstance(node, ast.Raise):
                    self.assertIn(ast.unparse(node.exc.func), CLASSES[errors], name)

    def test_every_import_is_used_and_names_the_file_that_defines_it(self):
        defined = {name: {word for node in ast.parse(text).body for word in bound(node)} | {
            target.id for node in ast.parse(text).body if isinstance(node, ast.Assign) for target in node.targets}
            for name, text in files().items()}
        for name, text in files().items():
            parts = list(ast.walk(ast.parse(text)))
            used = {node.id for node in parts if isinstance(node, ast.Name)}
            for node in parts:
                if isinstance(node, ast.ImportFrom):
                    for one in node.names:
                        self.assertIn(one.name, used, name)
                        self.assertIsNone(one.asname)
                        if node.module not in LIBRARY:
                            self.assertIn(one.name, defined[node.module.split(".")[1] + ".py"], name)

    def test_no_helper_stands_twice(self):
        seen = {}
        for name, text in files().items():
            for node in ast.parse(text).body:
                for word in bound(node):
                    self.assertNotIn(word, seen, name)
                    seen[word] = name


class TestInterface(unittest.TestCase):
    def test_classes_stand_in_their_file(self):
        for module, names in CLASSES.items():
            for name in names:
                self.assertEqual(getattr(module, name).__module__, module.__name__)

    def test_functions_have_their_names_and_arguments_and_stand_in_their_file(self):
        for module, wanted in FUNCTIONS.items():
            for name, arguments in wanted.items():
                function = getattr(module, name)
                self.assertTrue(inspect.isfunction(function), name)
                self.assertEqual(function.__module__, module.__name__)
                self.assertEqual(list(inspect.signature(function).parameters), arguments)


class TestReadme(unittest.TestCase):
    def test_examples(self):
        found = doctest.testfile(os.path.join(TOP, "README.md"), module_relative=False)
        self.assertGreater(found.attempted, 0)
        self.assertEqual(found.failed, 0)


if __name__ == "__main__":
    unittest.main()
