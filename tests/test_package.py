"""The interface, and the rules of the language that are easily broken without notice."""

import ast
import importlib
import inspect
import pathlib
import unittest

from stayswap.hotel import Hotel
from stayswap.most import MOST

FOLDER = pathlib.Path(__file__).resolve().parent.parent / "stayswap"

INTERFACE = {
    "stays": {
        "is_stays": ["value"],
        "nights": ["stays"],
        "guests_on": ["stays", "day"],
        "order_of": ["stays"],
        "share_day": ["stays", "one", "other"],
    },
    "exchanging": {
        "exchanges": ["stays"],
        "exchanged": ["stays", "one", "other"],
        "run": ["stays", "pairs"],
    },
    "leading": {
        "leads": ["one", "other"],
        "bar": ["one", "other"],
        "rings": ["one", "other"],
        "distance": ["one", "other"],
        "nearer": ["one", "other"],
        "shortest": ["one", "other"],
        "is_way": ["one", "other", "value"],
    },
    "histories": {
        "mates_of": ["stays", "guest"],
        "history": ["one", "other"],
        "is_history": ["stays", "value"],
        "after": ["stays", "history"],
    },
    "counting": {
        "options": ["stays"],
        "lot_many": ["stays"],
        "stays_at": ["stays", "number"],
        "number_of": ["stays", "other"],
        "spheres": ["stays"],
        "farthest": ["stays"],
        "mean_distance": ["stays"],
        "obstacle": ["arrivals", "days"],
        "first_stays": ["arrivals", "days"],
    },
    "chances": {
        "leaving_chances": ["stays", "guest"],
        "mean_nights": ["stays", "guest"],
        "meeting_chance": ["stays", "one", "other"],
        "sure_meetings": ["stays"],
    },
    "wishes": {
        "meets": ["stays", "wish"],
        "wish_many": ["stays", "wish"],
        "wish_at": ["stays", "wish", "number"],
        "nearest": ["stays", "wish"],
    },
    "lengths": {
        "first_out": ["stays"],
        "last_out": ["stays"],
        "squares": ["stays"],
        "square_range": ["stays"],
        "longest_range": ["stays"],
        "shortest_range": ["stays"],
        "crossings": ["stays"],
        "meetings": ["stays"],
        "crossing_counts": ["stays"],
    },
    "small": {
        "all_stays": ["stays"],
        "ways_many": ["one", "other"],
    },
    "texts": {
        "stays_text": ["stays"],
        "pairs_text": ["pairs"],
        "wish_text": ["wish"],
        "stays_in": ["text"],
        "pairs_in": ["text"],
        "wish_in": ["text"],
    },
    "desk": {
        "answers": ["text"],
    },
}

# The methods of Hotel.
METHODS = {
    "__init__": ["self", "stays"],
    "exchange": ["self", "one", "other"],
    "run": ["self", "pairs"],
    "go": ["self", "goal"],
    "come": ["self", "arrival", "leaving"],
    "strike": ["self", "guest"],
    "prolong": ["self", "guest", "day"],
    "undo": ["self"],
    "do": ["self", "deeds", "whole"],
    "stays": ["self"],
    "lot": ["self"],
    "exchanges": ["self"],
    "on": ["self", "day"],
    "deeds": ["self"],
    "as_of": ["self", "many"],
    "twin": ["self"],
    "log": ["self"],
    "__len__": ["self"],
    "__eq__": ["self", "other"],
    "__repr__": ["self"],
}


def sources():
    return [(path.name, path.read_text("utf-8")) for path in sorted(FOLDER.glob("*.py"))]


class InterfaceTest(unittest.TestCase):

    def test_functions_and_their_arguments(self):
        for module, functions in INTERFACE.items():
            for name, arguments in functions.items():
                with self.subTest(module=module, name=name):
                    function = getattr(importlib.import_module("stayswap." + module), name)
                    self.assertEqual(list(inspect.signature(function).parameters), arguments)
                    self.assertEqual(function.__module__, "stayswap." + module)


    def test_methods_of_hotel(self):
        self.assertEqual(Hotel.__module__, "stayswap.hotel")
        self.assertEqual(Hotel.__bases__, (object,))
        for name, arguments in METHODS.items():
            with self.subTest(name=name):
                self.assertIn(name, vars(Hotel))
                self.assertEqual(list(inspect.signature(vars(Hotel)[name]).parameters), arguments)
        self.assertEqual(inspect.signature(Hotel).parameters["stays"].default, ())
        whole = inspect.signature(Hotel.do).parameters["whole"]
        self.assertEqual([whole.kind, whole.default], [whole.KEYWORD_ONLY, True])

    def test_most(self):
        self.assertEqual(repr(MOST), "300")


class LanguageTest(unittest.TestCase):

    def test_only_python_files(self):
        found = [path.name for path in FOLDER.iterdir() if path.name != "__pycache__"]
        self.assertEqual(sorted(found), [name for name, _ in sources()])
        self.assertIn("__init__.py", found)

    def test_characters_and_sizes(self):
        for name, text in sources():
            with self.subTest(name=name):
                self.assertTrue(all(" " <= sign <= "~" or sign == "\n" for sign in text))
                lines = text.split("\n")
                self.assertLessEqual(len(lines), 399)
                self.assertLessEqual(max(map(len, lines)), 120)
                for node in ast.walk(ast.parse(text)):
                    if isinstance(node, ast.FunctionDef):
                        self.assertLessEqual(node.end_lineno - node.lineno + 1, 40)

    def test_imports(self):
        for name, text in sources():
            for node in ast.walk(ast.parse(text)):
                with self.subTest(name=name):
                    self.assertNotIsInstance(node, ast.Import)
                    if isinstance(node, ast.ImportFrom):
                        allowed = ("stayswap.", "heapq", "math", "itertools")
                        self.assertTrue(node.module.startswith(allowed))


if __name__ == "__main__":
    unittest.main()
