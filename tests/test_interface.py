"""The interface: each name stands in its own file, with the listed arguments; each listed method in its own class."""

import ast
import importlib
import inspect
import pathlib
import unittest

PACKAGE = pathlib.Path(__file__).resolve().parent.parent / "producttrees"

# A function's or a method's arguments are written as inspect shows them, a class's methods by their names.
FUNCTIONS = {
    "validation": {
        "is_integer": "(value)", "is_name": "(value)", "parse_integer": "(text, *, minimum=0, maximum=None)",
        "split_words": "(text)",
    },
    "levels": {
        "right_class": "(table, element)", "left_class": "(table, element)", "cell_of": "(table, element)",
        "levels": "(table)", "level_of": "(table, element)", "find_factors": "(table, start, goal)",
        "is_above": "(table, first, second)", "group_cells": "(table)", "inverse": "(table, element)",
        "height_bound": "(table)", "color_bound": "(table)",
    },
    "trees": {
        "evaluate": "(table, sequence, start=0, stop=None)", "is_tree": "(value)", "tree_leaves": "(tree)",
        "tree_height": "(tree)", "tree_spans": "(tree)", "tree_products": "(table, tree)",
        "first_tree_error": "(table, sequence, tree)", "join_trees": "(trees)",
    },
    "building": {
        "cut_at_level": "(table, sequence, level)", "gap_labels": "(table, sequence, level)",
        "build_tree": "(table, sequence)",
    },
    "heights": {
        "height_table": "(table, sequence)", "minimal_height": "(table, sequence)",
        "first_height_error": "(table, sequence, heights)", "minimal_tree": "(table, sequence)",
    },
    "coloring": {
        "gap_colors": "(table, sequence)", "first_color_error": "(table, sequence, colors)",
    },
}
CLASSES = {
    "tables": {
        "ProductTable": {
            "__init__": "(self, rows)", "rows": "(self)", "__len__": "(self)", "__eq__": "(self, other)",
            "product": "(self, first, second)", "power": "(self, element, count)", "idempotents": "(self)",
            "identity": "(self)", "generated": "(self, generators)", "subtable": "(self, generators)",
            "renumbered": "(self, order)",
        },
    },
    "transformations": {
        "Transformations": {
            "__init__": "(self, states, letters)", "states": "(self)", "letters": "(self)", "contents": "(self)",
            "table": "(self)", "__len__": "(self)", "__eq__": "(self, other)", "element_of": "(self, word)",
            "word_of": "(self, element)", "run": "(self, state, word)",
        },
    },
    "indexes": {
        "ProductIndex": {
            "__init__": "(self, table, sequence, *, tree=None)", "table": "(self)", "sequence": "(self)",
            "tree": "(self)", "height": "(self)", "__len__": "(self)", "product": "(self, start, stop)",
            "parts": "(self, start, stop)", "longest_range": "(self, start, allowed)",
        },
    },
    "coloring": {
        "GapColorer": {
            "__init__": "(self, table)", "push": "(self, element)", "colors": "(self)", "__len__": "(self)",
            "state": "(self)", "copied": "(self)",
        },
    },
    "buffers": {
        "SequenceBuffer": {
            "__init__": "(self, table)", "table": "(self)", "sequence": "(self)", "marks": "(self)",
            "__len__": "(self)", "append": "(self, sequence)", "truncate": "(self, length)",
            "set_mark": "(self, name, place=None)", "remove_mark": "(self, name)", "undo": "(self)",
            "product": "(self, start=0, stop=None)", "colors": "(self)", "tree": "(self)", "copied": "(self)",
            "__eq__": "(self, other)",
        },
    },
}


def definitions(module):
    return ast.parse((PACKAGE / (module + ".py")).read_text()).body


class InterfaceTest(unittest.TestCase):
    def test_functions(self):
        for module, functions in FUNCTIONS.items():
            defined = [node.name for node in definitions(module) if isinstance(node, ast.FunctionDef)]
            for name, arguments in functions.items():
                with self.subTest(module=module, name=name):
                    self.assertIn(name, defined)
                    function = getattr(importlib.import_module("producttrees." + module), name)
                    self.assertEqual(str(inspect.signature(function)), arguments)

    def test_classes(self):
        for module, classes in CLASSES.items():
            bodies = {node.name: node.body for node in definitions(module) if isinstance(node, ast.ClassDef)}
            for name, methods in classes.items():
                self.assertIn(name, bodies)
                written = [node.name for node in bodies[name] if isinstance(node, ast.FunctionDef)]
                for method, arguments in methods.items():
                    with self.subTest(module=module, name=name, method=method):
                        self.assertIn(method, written)
                        listed = getattr(importlib.import_module("producttrees." + module), name)
                        self.assertEqual(str(inspect.signature(getattr(listed, method))), arguments)

    def test_public_methods_are_the_listed_ones(self):
        for module, classes in CLASSES.items():
            for name, methods in classes.items():
                listed = getattr(importlib.import_module("producttrees." + module), name)
                public = [method for method in vars(listed) if not method.startswith("_")]
                self.assertEqual(sorted(public), sorted(key for key in methods if not key.startswith("_")))
