"""The interface: each name stands in its own file, with the listed arguments; each listed method in its own class."""

import ast
import importlib
import inspect
import pathlib
import unittest

PACKAGE = pathlib.Path(__file__).resolve().parent.parent / "producttrees"

# A function's or a method's arguments are written as inspect shows them, a class's methods by their names.
FUNCTIONS = {
    "validation": {
        "is_integer": "(value)", "is_name": "(value)", "parse_integer": "(text, *, minimum=0, maximum=None)",
        "split_words": "(text)",
    },
}
CLASSES = {
    "tables": {
        "ProductTable": {
            "__init__": "(self, rows)", "rows": "(self)", "__len__": "(self)", "__eq__": "(self, other)",
            "product": "(self, first, second)", "power": "(self, element, count)", "idempotents": "(self)",
            "identity": "(self)", "generated": "(self, generators)", "subtable": "(self, generators)",
            "renumbered": "(self, order)",
        },
    },
}


def definitions(module):
    return ast.parse((PACKAGE / (module + ".py")).read_text()).body


class InterfaceTest(unittest.TestCase):
    def test_functions(self):
        for module, functions in FUNCTIONS.items():
            defined = [node.name for node in definitions(module) if isinstance(node, ast.FunctionDef)]
            for name, arguments in functions.items():
                with self.subTest(module=module, name=name):
                    self.assertIn(name, defined)
                    function = getattr(importlib.import_module("producttrees." + module), name)
                    self.assertEqual(str(inspect.signature(function)), arguments)

    def test_classes(self):
        for module, classes in CLASSES.items():
            bodies = {node.name: node.body for node in definitions(module) if isinstance(node, ast.ClassDef)}
            for name, methods in classes.items():
                self.assertIn(name, bodies)
                written = [node.name for node in bodies[name] if isinstance(node, ast.FunctionDef)]
                for method, arguments in methods.items():
                    with self.subTest(module=module, name=name, method=method):
                        self.assertIn(method, written)
                        listed = getattr(importlib.import_module("producttrees." + module), name)
                        self.assertEqual(str(inspect.signature(getattr(listed, method))), arguments)

    def test_public_methods_are_the_listed_ones(self):
        for module, classes in CLASSES.items():
            for name, methods in classes.items():
                listed = getattr(importlib.import_module("producttrees." + module), name)
                public = [method for method in vars(listed) if not method.startswith("_")]
                self.assertEqual(sorted(public), sorted(key for key in methods if not key.startswith("_")))
