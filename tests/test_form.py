"""The form of the package (as far as a test can see it), its interface, and the examples of README.md."""

import ast
import builtins
import doctest
import inspect
import os
import unittest

from treeserved import alike, centers, groups, metrics, places, routes, stands, trees, treetext

TOP = os.path.dirname(os.path.dirname(os.path.abspath(__file__)))
PACKAGE = os.path.join(TOP, "treeserved")
BUILTINS = {word for word in dir(builtins) if not word.startswith("__")}
LIBRARY = {"heapq", "math", "itertools", "collections", "__future__"}
FUNCTIONS = {
    trees: {
        "tree": ["nodes", "edges"],
        "names_of": ["some_tree"],
        "weight_of": ["some_tree", "name"],
        "neighbors": ["some_tree", "name"],
        "path": ["some_tree", "first", "second"],
        "distance": ["some_tree", "first", "second"],
        "meeting": ["some_tree", "first", "second", "third"],
        "sides": ["some_tree", "first", "second"],
        "is_group": ["some_tree", "names"],
    },
    treetext: {
        "format_tree": ["some_tree"],
        "read_tree": ["text"],
    },
    places: {
        "place_on": ["some_tree", "first", "second", "offset"],
        "between": ["some_tree", "place", "other"],
        "reach": ["some_tree", "place"],
        "load": ["some_tree", "place"],
    },
    centers: {
        "farthest_pair": ["some_tree"],
        "center": ["some_tree"],
        "radius": ["some_tree"],
        "shows_radius": ["some_tree", "pair", "least"],
        "medians": ["some_tree"],
        "branches": ["some_tree", "name"],
        "is_median": ["some_tree", "name"],
    },
    groups: {
        "hit": ["some_tree", "groups"],
        "top_of": ["some_tree", "group"],
        "are_hit": ["groups", "names"],
        "are_apart": ["groups", "indices"],
        "common": ["some_tree", "groups"],
    },
    stands: {
        "stands": ["some_tree", "far"],
        "least_distance": ["some_tree", "many"],
        "do_serve": ["some_tree", "names", "far"],
        "are_too_far": ["some_tree", "names", "far"],
        "served": ["some_tree", "names"],
    },
    alike: {
        "renamed": ["some_tree", "names"],
        "normal_form": ["some_tree"],
        "renaming": ["some_tree", "other"],
        "shows_alike": ["some_tree", "other", "names"],
    },
    metrics: {
        "table": ["pairs"],
        "table_of": ["some_tree", "names"],
        "distance_in": ["some_table", "first", "second"],
        "breaks_rule": ["some_table", "names"],
        "four_places": ["some_table"],
        "three_places": ["some_table"],
        "grown": ["some_table"],
    },
    routes: {
        "needed": ["some_tree", "start", "wanted"],
        "walk_length": ["some_tree", "walk"],
        "round_of": ["some_tree", "start", "wanted"],
        "trip_of": ["some_tree", "start", "wanted"],
        "round_reason": ["some_tree", "start", "wanted"],
        "trip_reason": ["some_tree", "start", "wanted"],
    },
}
# L17: names that are given to nothing.
BARRED = {
    "register", "mro", "elements", "open", "input", "law", "version_info", "with_traceback", "add_note", "attrgetter",
    "builtins", "gc", "importlib", "methodcaller", "os", "sys", "typing", "typing_extensions", "enum", "Enum",
    "IntEnum", "StrEnum", "Flag", "IntFlag", "Generic", "Protocol", "ABC", "ABCMeta", "namedtuple", "NamedTuple",
    "TypedDict", "TYPE_CHECKING", "abstractmethod", "dataclass", "overload", "contextmanager",
}


def files():
    """The names and texts of the files of the package."""
    found = {}
    for name in sorted(os.listdir(PACKAGE)):
        if name != "__pycache__":
            with open(os.path.join(PACKAGE, name), encoding="utf-8", newline="") as held:
                found[name] = held.read()
    return found


def bound(node):
    """The names that a part of a program gives to something."""
    if isinstance(node, (ast.FunctionDef, ast.ClassDef)):
        return [node.name]
    if isinstance(node, ast.arg):
        return [node.arg]
    if isinstance(node, ast.Name) and isinstance(node.ctx, ast.Store):
        return [node.id]
    if isinstance(node, ast.ExceptHandler) and node.name:
        return [node.name]
    return []


class TestForm(unittest.TestCase):
    def test_the_folder_holds_nothing_but_python_files(self):
        for name in files():
            self.assertRegex(name, r"^[a-z_]+\.py$")
        self.assertIn("__init__.py", files())

    def test_characters_lines_and_sizes(self):
        for name, text in files().items():
            self.assertTrue(all(sign == "\n" or " " <= sign <= "~" for sign in text), name)
            self.assertLessEqual(len(text.splitlines()), 399, name)
            self.assertLessEqual(max(len(line) for line in text.splitlines()), 120, name)

    def test_functions_have_at_most_forty_lines(self):
        for name, text in files().items():
            for node in ast.walk(ast.parse(text)):
                if isinstance(node, ast.FunctionDef):
                    self.assertLessEqual(node.end_lineno - node.lineno + 1, 40, (name, node.name))

    def test_imports_name_the_package_or_the_few_allowed_modules(self):
        for name, text in files().items():
            for node in ast.walk(ast.parse(text)):
                self.assertNotIsInstance(node, ast.Import, name)
                if isinstance(node, ast.ImportFrom):
                    self.assertTrue(node.module.startswith("treeserved.") or node.module in LIBRARY, name)
                    self.assertEqual(node.level, 0)

    def test_no_name_of_a_builtin_is_given_another_meaning(self):
        for name, text in files().items():
            for node in ast.walk(ast.parse(text)):
                for word in bound(node):
                    self.assertNotIn(word, BUILTINS, name)

    def test_names_are_plain_and_none_is_barred(self):
        for name, text in files().items():
            for node in ast.walk(ast.parse(text)):
                for word in bound(node):
                    self.assertNotIn(word, BARRED, name)
                    self.assertRegex(word, r"^_?[A-Za-z][A-Za-z0-9_]*$|^__[a-z]+__$|^_$", name)

    def test_a_name_of_an_import_is_given_no_other_meaning(self):
        for name, text in files().items():
            parts = list(ast.walk(ast.parse(text)))
            imported = [one.name for node in parts if isinstance(node, ast.ImportFrom) for one in node.names]
            self.assertEqual(len(imported), len(set(imported)), name)
            self.assertEqual(set(imported) & {word for node in parts for word in bound(node)}, set(), name)

    def test_no_two_files_import_from_each_other(self):
        above = {}
        for name, text in files().items():
            above["treeserved." + name[:-3]] = {
                node.module for node in ast.walk(ast.parse(text)) if isinstance(node, ast.ImportFrom)} - LIBRARY
        while above:
            free = [name for name in above if not above[name] & set(above)]
            self.assertNotEqual(free, [], above)
            above = {name: above[name] for name in above if name not in free}

    def test_no_percent_sign_no_float_and_no_slash(self):
        for name, text in files().items():
            for node in ast.walk(ast.parse(text)):
                self.assertNotIsInstance(node, ast.Div, name)
                if isinstance(node, ast.Constant):
                    self.assertNotIsInstance(node.value, float, name)
                    self.assertFalse(isinstance(node.value, str) and chr(37) in node.value, name)


class TestInterface(unittest.TestCase):
    def test_functions_have_their_names_and_arguments_and_stand_in_their_file(self):
        for module, wanted in FUNCTIONS.items():
            for name, arguments in wanted.items():
                function = getattr(module, name)
                self.assertTrue(inspect.isfunction(function), name)
                self.assertEqual(function.__module__, module.__name__)
                self.assertEqual(list(inspect.signature(function).parameters), arguments)


class TestReadme(unittest.TestCase):
    def test_examples(self):
        found = doctest.testfile(os.path.join(TOP, "README.md"), module_relative=False)
        self.assertGreater(found.attempted, 0)
        self.assertEqual(found.failed, 0)


if __name__ == "__main__":
    unittest.main()
