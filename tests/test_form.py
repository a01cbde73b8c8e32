"""The form of the package's files, as far as a short check can see it: LANGUAGE.md has the rules themselves."""

import ast
import pathlib
import unittest

PACKAGE = pathlib.Path(__file__).resolve().parent.parent / "producttrees"

BUILTINS = """len range enumerate zip min max sum abs sorted reversed int str bool bytes list tuple dict set isinstance ord
    repr any all divmod pow map iter next type getattr hasattr setattr super Exception ValueError TypeError KeyError
    IndexError LookupError ZeroDivisionError ArithmeticError OverflowError RuntimeError NotImplementedError
    NotImplemented""".split()

BARRED_EVERYWHERE = "register mro elements open input law version_info with_traceback add_note".split()

BARRED_NAMES = """breakpoint builtins compile copyright credits delattr dir eval exec exit gc globals help id importlib
    license locals methodcaller os quit vars float chr print hash round format filter callable slice complex object
    bytearray memoryview""".split()

# Methods of strings, lists and dicts that may be called.
METHODS = """append clear copy count endswith extend find get index insert isalnum isalpha isdigit islower isspace isupper
    items join keys ljust lower lstrip partition pop remove replace reverse rfind rjust rpartition rsplit rstrip setdefault
    split splitlines startswith strip update upper values zfill bit_length isascii removeprefix removesuffix""".split()

# The modules of the library of which the rules allow some names.
LIBRARY = ("heapq", "math", "itertools", "collections")

STATEMENTS_AT_TOP = (ast.ImportFrom, ast.FunctionDef, ast.ClassDef, ast.Assign)


def files():
    return sorted(path for path in PACKAGE.rglob("*") if "__pycache__" not in path.parts)


def parsed():
    return [(path.name, ast.parse(path.read_text())) for path in files()]


def nodes(tree, *kinds):
    return [node for node in ast.walk(tree) if isinstance(node, kinds)]


def is_docstring(node):
    return isinstance(node, ast.Expr) and isinstance(node.value, ast.Constant) and isinstance(node.value.value, str)


def bound_names(tree):
    """Return every name that a file gives to something of its own."""
    names = [node.id for node in nodes(tree, ast.Name) if not isinstance(node.ctx, ast.Load)]
    names += [node.arg for node in nodes(tree, ast.arg)]
    names += [node.name for node in nodes(tree, ast.FunctionDef, ast.ClassDef)]
    return names


def names_at_top(tree):
    names = [node.name for node in tree.body if isinstance(node, (ast.FunctionDef, ast.ClassDef))]
    return names + [target.id for node in tree.body if isinstance(node, ast.Assign) for target in node.targets]


class FormTest(unittest.TestCase):
    def test_only_python_files(self):
        self.assertIn(PACKAGE / "__init__.py", files())
        for path in files():
            self.assertEqual(path.suffix, ".py")
            self.assertEqual(path.name, path.name.lower())

    def test_characters_and_sizes(self):
        for path in files():
            text = path.read_text()
            self.assertLessEqual(len(text.splitlines()), 399, path.name)
            self.assertEqual([sign for sign in text if sign != "\n" and not " " <= sign <= "~"], [], path.name)
            self.assertEqual([line for line in text.splitlines() if len(line) > 120], [], path.name)

    def test_length_of_functions(self):
        for name, tree in parsed():
            for node in nodes(tree, ast.FunctionDef):
                self.assertLessEqual(node.end_lineno - node.lineno + 1, 40, (name, node.name))

    def test_module_level(self):
        for name, tree in parsed():
            self.assertTrue(is_docstring(tree.body[0]), name)
            for node in tree.body[1:]:
                self.assertIsInstance(node, STATEMENTS_AT_TOP, name)
        self.assertEqual(len(ast.parse((PACKAGE / "__init__.py").read_text()).body), 1)

    def test_imports(self):
        defined = {"producttrees." + name[:-3]: names_at_top(tree) for name, tree in parsed()}
        for name, tree in parsed():
            self.assertEqual(nodes(tree, ast.Import), [], name)
            for node in nodes(tree, ast.ImportFrom):
                if node.module in LIBRARY:
                    continue
                self.assertIn(node.module, defined, name)
                for alias in node.names:
                    self.assertIsNone(alias.asname)
                    self.assertIn(alias.name, defined[node.module])

    def test_names(self):
        for name, tree in parsed():
            bound = bound_names(tree)
            imported = [alias.name for node in nodes(tree, ast.ImportFrom) for alias in node.names]
            used = [node.id for node in nodes(tree, ast.Name)]
            attributes = [node.attr for node in nodes(tree, ast.Attribute)]
            self.assertEqual([word for word in used + bound + attributes if word in BARRED_EVERYWHERE], [], name)
            self.assertEqual([word for word in used + bound if word in BARRED_NAMES], [], name)
            self.assertEqual([word for word in bound if word in BUILTINS], [], name)
            self.assertEqual([word for word in used if word not in bound + imported + BUILTINS], [], name)
            self.assertEqual(len(imported), len(set(imported)), name)
            self.assertEqual([word for word in imported if word not in used], [], name)
            self.assertEqual([word for word in bound if word in imported], [], name)
            self.assertEqual(len(names_at_top(tree)), len(set(names_at_top(tree))), name)

    def test_methods(self):
        own = [node.name for _, tree in parsed() for node in nodes(tree, ast.FunctionDef)]
        stored = [node.attr for _, tree in parsed() for node in nodes(tree, ast.Attribute)
                  if isinstance(node.ctx, ast.Store)]
        for name, tree in parsed():
            called = [node.func.attr for node in nodes(tree, ast.Call) if isinstance(node.func, ast.Attribute)]
            self.assertEqual([word for word in called if word not in own + METHODS], [], name)
            read = [node.attr for node in nodes(tree, ast.Attribute)]
            self.assertEqual([word for word in read if word not in own + METHODS + stored], [], name)

    def test_comparisons_and_generators(self):
        for name, tree in parsed():
            self.assertEqual([ast.unparse(node) for node in nodes(tree, ast.GeneratorExp)], [], name)
            for node in nodes(tree, ast.Compare):
                for sign, right in zip(node.ops, node.comparators):
                    if isinstance(sign, (ast.Is, ast.IsNot)):
                        self.assertIn(ast.unparse(right), ("None", "True", "False"), name)

    def test_expressions(self):
        barred = (ast.Div, ast.AsyncFunctionDef, ast.AsyncFor, ast.AsyncWith, ast.Await)
        for name, tree in parsed():
            self.assertEqual([ast.unparse(node) for node in nodes(tree, *barred)], [], name)
            for node in nodes(tree, ast.Constant):
                self.assertNotIsInstance(node.value, (float, complex), name)
                if isinstance(node.value, str):
                    self.assertNotIn("%", node.value, name)
