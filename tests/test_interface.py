"""The interface: each name stands in its own file, with the listed arguments; each listed method in its own class."""

import ast
import importlib
import inspect
import pathlib
import unittest

from producttrees.buffers import SequenceBuffer
from producttrees.coloring import GapColorer
from producttrees.indexes import ProductIndex
from producttrees.session import Session
from producttrees.tables import ProductTable
from producttrees.transformations import Transformations

PACKAGE = pathlib.Path(__file__).resolve().parent.parent / "producttrees"

# A function's or a method's arguments are written as inspect shows them, a class's methods by their names.
FUNCTIONS = {
    "validation": {
        "is_integer": "(value)", "is_name": "(value)", "parse_integer": "(text, *, minimum=0, maximum=None)",
        "split_words": "(text)",
    },
    "levels": {
        "right_class": "(table, element)", "left_class": "(table, element)", "cell_of": "(table, element)",
        "levels": "(table)", "level_of": "(table, element)", "find_factors": "(table, start, goal)",
        "is_above": "(table, first, second)", "group_cells": "(table)", "inverse": "(table, element)",
        "height_bound": "(table)", "color_bound": "(table)",
    },
    "trees": {
        "evaluate": "(table, sequence, start=0, stop=None)", "is_tree": "(value)", "tree_leaves": "(tree)",
        "tree_height": "(tree)", "tree_spans": "(tree)", "tree_products": "(table, tree)",
        "first_tree_error": "(table, sequence, tree)", "join_trees": "(trees)",
    },
    "building": {
        "cut_at_level": "(table, sequence, level)", "gap_labels": "(table, sequence, level)",
        "build_tree": "(table, sequence)",
    },
    "heights": {
        "height_table": "(table, sequence)", "minimal_height": "(table, sequence)",
        "first_height_error": "(table, sequence, heights)", "minimal_tree": "(table, sequence)",
    },
    "coloring": {
        "gap_colors": "(table, sequence)", "first_color_error": "(table, sequence, colors)",
    },
    "maps": {
        "first_homomorphism_error": "(source, target, images)", "map_sequence": "(source, target, images, sequence)",
        "map_tree": "(source, target, images, tree)", "pair_table": "(first, second)",
    },
    "runs": {
        "is_run": "(table, sequence, value)", "find_run": "(table, sequence, count)", "run_state": "(table, sequence)",
        "longest_run_free": "(table, alphabet, count, *, limit=300)",
        "first_certificate_error": "(table, alphabet, count, certificate)", "run_free_bound": "(table, count)",
    },
    "texts": {
        "format_table": "(table)", "parse_table": "(text)", "format_sequence": "(sequence)", "parse_sequence": "(text)",
        "format_tree": "(tree)", "parse_tree": "(text)", "format_colors": "(colors)", "parse_colors": "(text)",
        "format_transformations": "(transformations)", "parse_transformations": "(text)",
    },
}
CLASSES = {
    "tables": {
        "ProductTable": {
            "__init__": "(self, rows)", "rows": "(self)", "__len__": "(self)", "__eq__": "(self, other)",
            "product": "(self, first, second)", "power": "(self, element, count)", "idempotents": "(self)",
            "identity": "(self)", "generated": "(self, generators)", "subtable": "(self, generators)",
            "renumbered": "(self, order)",
        },
    },
    "transformations": {
        "Transformations": {
            "__init__": "(self, states, letters)", "states": "(self)", "letters": "(self)", "contents": "(self)",
            "table": "(self)", "__len__": "(self)", "__eq__": "(self, other)", "element_of": "(self, word)",
            "word_of": "(self, element)", "run": "(self, state, word)",
        },
    },
    "indexes": {
        "ProductIndex": {
            "__init__": "(self, table, sequence, *, tree=None)", "table": "(self)", "sequence": "(self)",
            "tree": "(self)", "height": "(self)", "__len__": "(self)", "product": "(self, start, stop)",
            "parts": "(self, start, stop)", "longest_range": "(self, start, allowed)",
        },
    },
    "coloring": {
        "GapColorer": {
            "__init__": "(self, table)", "push": "(self, element)", "colors": "(self)", "__len__": "(self)",
            "state": "(self)", "copied": "(self)",
        },
    },
    "buffers": {
        "SequenceBuffer": {
            "__init__": "(self, table)", "table": "(self)", "sequence": "(self)", "marks": "(self)",
            "__len__": "(self)", "append": "(self, sequence)", "truncate": "(self, length)",
            "set_mark": "(self, name, place=None)", "remove_mark": "(self, name)", "undo": "(self)",
            "product": "(self, start=0, stop=None)", "colors": "(self)", "tree": "(self)", "copied": "(self)",
            "__eq__": "(self, other)",
        },
    },
    "session": {
        "Session": {
            "__init__": "(self)", "execute": "(self, line)", "execute_all": "(self, lines)", "commands": "(self)",
        },
    },
}


def definitions(module):
    return ast.parse((PACKAGE / (module + ".py")).read_text()).body


class InterfaceTest(unittest.TestCase):
    def test_functions(self):
        for module, functions in FUNCTIONS.items():
            defined = [node.name for node in definitions(module) if isinstance(node, ast.FunctionDef)]
            for name, arguments in functions.items():
                with self.subTest(module=module, name=name):
                    self.assertIn(name, defined)
                    function = getattr(importlib.import_module("producttrees." + module), name)
                    self.assertEqual(str(inspect.signature(function)), arguments)

    def test_classes(self):
        for module, classes in CLASSES.items():
            bodies = {node.name: node.body for node in definitions(module) if isinstance(node, ast.ClassDef)}
            for name, methods in classes.items():
                self.assertIn(name, bodies)
                written = [node.name for node in bodies[name] if isinstance(node, ast.FunctionDef)]
                for method, arguments in methods.items():
                    with self.subTest(module=module, name=name, method=method):
                        self.assertIn(method, written)
                        listed = getattr(importlib.import_module("producttrees." + module), name)
                        self.assertEqual(str(inspect.signature(getattr(listed, method))), arguments)

    def test_public_methods_are_the_listed_ones(self):
        for module, classes in CLASSES.items():
            for name, methods in classes.items():
                listed = getattr(importlib.import_module("producttrees." + module), name)
                public = [method for method in vars(listed) if not method.startswith("_")]
                self.assertEqual(sorted(public), sorted(key for key in methods if not key.startswith("_")))

LOW = ProductTable([[0, 0], [0, 1]])
MAPS = Transformations(2, {"a": [0, 0], "b": [1, 0]})
ONE = ProductTable([[0]])
CERTIFICATE = [(((0, (-1,)),), 1), (((1, (0,)),), 0)]

# Arguments with which each function of the interface may be called; those after the "*" are named.
CALLS = {
    "is_integer": [7], "is_name": ["abc"], "parse_integer": ["12", {"minimum": 3, "maximum": 12}],
    "split_words": ["a b"], "right_class": [LOW, 1], "left_class": [LOW, 1], "cell_of": [LOW, 1], "levels": [LOW],
    "level_of": [LOW, 0], "find_factors": [LOW, 1, 0], "is_above": [LOW, 1, 0], "group_cells": [LOW],
    "inverse": [LOW, 0], "height_bound": [LOW], "color_bound": [LOW], "evaluate": [LOW, [1, 1, 0, 1], 0, 2],
    "is_tree": [[1, 0, (0, 1)]], "tree_leaves": [[1, 0, (0, 1)]], "tree_height": [[1, 0, (0, 1)]],
    "tree_spans": [[1, 0, (0, 1)]], "tree_products": [LOW, [1, 0, (0, 1)]],
    "first_tree_error": [LOW, [1, 1], [1, 0, (0, 1)]], "join_trees": [[[1], [0]]], "cut_at_level": [LOW, [1, 0, 1], 1],
    "gap_labels": [LOW, [1, 0, 1, 0], 1], "build_tree": [LOW, [1, 0, 1]], "height_table": [LOW, [1, 1, 0]],
    "minimal_height": [LOW, [1, 1, 0]], "first_height_error": [LOW, [1, 1], [[0, 2], [0]]],
    "minimal_tree": [LOW, [1, 1, 0]], "gap_colors": [LOW, [1, 1, 0]], "first_color_error": [LOW, [1, 1, 0], [1, 1, 1]],
    "first_homomorphism_error": [LOW, ONE, [0, 0]], "map_sequence": [ONE, LOW, [1], [0, 0]],
    "map_tree": [ONE, LOW, [1], [0, 0, (0, 1)]], "pair_table": [ONE, LOW], "is_run": [LOW, [1, 1], (1, [0, 1, 2])],
    "find_run": [LOW, [1, 0, 1, 1], 2], "run_state": [LOW, [1, 0]],
    "longest_run_free": [LOW, [1], 2, {"limit": 5}], "first_certificate_error": [ONE, [0], 2, CERTIFICATE],
    "run_free_bound": [LOW, 4], "format_table": [LOW], "parse_table": ["table 1\nrow 0"], "format_sequence": [[1, 0]],
    "parse_sequence": ["sequence 1\nitems 1"], "format_tree": [[1, 0, (0, 1)]], "parse_tree": ["tree 1\nleaf 1"],
    "format_colors": [[1, 2]], "parse_colors": ["colors 1\nitems 2"], "format_transformations": [MAPS],
    "parse_transformations": ["transformations 1\nletter a 0"],
}


def filled_buffer(table):
    buffer = SequenceBuffer(table)
    buffer.append([1, 0, 1])
    buffer.set_mark("m", 1)
    return buffer


# For each class a function that makes an object, and arguments for it and for its methods.
METHODS = {
    "ProductTable": (ProductTable, [[[0, 0], [0, 1]]], {
        "rows": [], "product": [1, 0], "power": [1, 5], "idempotents": [], "identity": [], "generated": [[1]],
        "subtable": [[1]], "renumbered": [[1, 0]]}),
    "Transformations": (Transformations, [2, {"a": [0, 0], "b": [1, 0]}], {
        "states": [], "letters": [], "contents": [], "table": [], "element_of": [["a", "b"]], "word_of": [2],
        "run": [1, ["b", "a"]]}),
    "ProductIndex": (ProductIndex, [LOW, [1, 0, 1], {"tree": [1, 0, (0, 1), 1, (2, 3)]}], {
        "table": [], "sequence": [], "tree": [], "height": [], "product": [1, 3], "parts": [1, 3],
        "longest_range": [0, [1]]}),
    "GapColorer": (GapColorer, [LOW], {"push": [1], "colors": [], "state": [], "copied": []}),
    "SequenceBuffer": (filled_buffer, [LOW], {
        "table": [], "sequence": [], "marks": [], "truncate": [0], "set_mark": ["m", 0], "remove_mark": ["m"],
        "undo": [], "product": ["m", 2], "colors": [], "tree": [], "copied": []}),
    "Session": (Session, [], {"execute": ["tables"], "execute_all": [["tables"]], "commands": []}),
}


def outcome(action, arguments, named):
    """Return what a call returns, or the class and the fields of what it raises."""
    try:
        result = action(*arguments, **named)
    except (ValueError, LookupError) as error:
        return type(error), vars(error)
    if isinstance(result, GapColorer):
        return result.colors(), result.state()
    return result


class NamesTest(unittest.TestCase):
    """Promise [6]: arguments by position, and by the names of the interface in any order."""

    def by_name(self, signature, arguments):
        """Return the arguments by position, the named ones beside them, and all by name from the last to the first."""
        named = arguments[-1] if arguments and isinstance(arguments[-1], dict) and "*" in signature else {}
        placed = arguments[:-1] if named else arguments
        names = [word.split("=")[0] for word in signature.strip("()").split(", ")]
        names = [name for name in names if name not in ("self", "*", "")]
        together = list(zip(names, placed)) + list(named.items())
        return placed, named, dict(together[::-1])

    def check(self, make, signature, arguments):
        """Check that new actions made by the function do the same in both ways."""
        placed, named, together = self.by_name(signature, arguments)
        if len(together) > 1:
            self.assertTrue(signature.replace("self, ", "").startswith("(" + list(together)[-1]))
        self.assertEqual(outcome(make(), [], together), outcome(make(), placed, named))

    def test_functions(self):
        for module, functions in FUNCTIONS.items():
            for name, signature in functions.items():
                with self.subTest(name=name):
                    function = getattr(importlib.import_module("producttrees." + module), name)
                    self.check(lambda: function, signature, CALLS[name])

    def test_methods(self):
        for classes in CLASSES.values():
            for name, methods in classes.items():
                make, arguments, calls = METHODS[name]
                placed, named, together = self.by_name(methods["__init__"], arguments)
                listed = [method for method in methods if not method.startswith("_") and method != "append"]
                self.assertEqual(sorted(listed), sorted(calls))
                for method, values in calls.items():
                    with self.subTest(name=name, method=method):
                        self.check(lambda: getattr(make(*placed, **named), method), methods[method], values)
                        self.assertEqual(outcome(getattr(make(**together), method), values, {}),
                                         outcome(getattr(make(*placed, **named), method), values, {}))

    def test_parameters_that_are_only_passed_by_name(self):
        for module, name, arguments in (("validation", "parse_integer", ["1", 0]),
                                        ("indexes", "ProductIndex", [LOW, [1], [1]]),
                                        ("runs", "longest_run_free", [LOW, [1], 2, 300])):
            with self.assertRaises(TypeError):
                getattr(importlib.import_module("producttrees." + module), name)(*arguments)
