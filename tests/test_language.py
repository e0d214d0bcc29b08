"""The rules for the code of the package that a test can check: sizes, characters, imports, statements."""

import ast
import builtins
import os
import unittest

import lastrows

FOLDER = os.path.dirname(lastrows.__file__)
LIBRARY = {"math": {"gcd", "lcm", "isqrt", "comb", "perm", "factorial"}}
BARRED = (ast.AsyncFunctionDef, ast.Await, ast.Global, ast.AnnAssign, ast.GeneratorExp, ast.Set, ast.SetComp, ast.Div,
          ast.MatMult, ast.TryStar, ast.Import)
BUILTINS = set("""len range enumerate zip min max sum abs sorted reversed int str bool list tuple dict isinstance ord repr
any all divmod ValueError TypeError NotImplemented staticmethod classmethod property""".split())
METHODS = set("""__init__ __eq__ __str__ __len__ __call__ __iter__ __add__ __sub__ __mul__ __rmul__ __floordiv__ __pow__
__neg__ __abs__ __getitem__""".split())


def sources():
    for name in sorted(os.listdir(FOLDER)):
        if name.endswith(".py"):
            with open(os.path.join(FOLDER, name), encoding="utf-8") as file:
                yield name, file.read()


def bound_names(tree):
    """Returns the names that a file gives a meaning anywhere."""
    found = set()
    for node in ast.walk(tree):
        if isinstance(node, (ast.FunctionDef, ast.ClassDef)):
            found.add(node.name)
        elif isinstance(node, ast.arg):
            found.add(node.arg)
        elif isinstance(node, ast.alias):
            found.add(node.name)
        elif isinstance(node, ast.Name) and isinstance(node.ctx, ast.Store):
            found.add(node.id)
    return found


class LanguageTest(unittest.TestCase):
    def test_the_folder_holds_nothing_but_files_of_python(self):
        self.assertEqual([name for name in os.listdir(FOLDER) if not name.endswith(".py") and name != "__pycache__"], [])

    def test_sizes_and_characters(self):
        for name, text in sources():
            lines = text.split("\n")
            self.assertLessEqual(len(lines), 399, name)
            self.assertLessEqual(max(len(line) for line in lines), 120, name)
            self.assertEqual([sign for sign in text if sign != "\n" and not " " <= sign <= "~"], [], name)
            for node in ast.walk(ast.parse(text)):
                if isinstance(node, ast.FunctionDef):
                    self.assertLessEqual(node.end_lineno - node.lineno + 1, 40, f"{name}: {node.name}")

    def test_imports(self):
        modules = {name[:-3]: {node.name for node in ast.parse(text).body
                               if isinstance(node, (ast.FunctionDef, ast.ClassDef))} for name, text in sources()}
        for name, text in sources():
            for node in ast.walk(ast.parse(text)):
                if isinstance(node, ast.ImportFrom):
                    head, _, module = node.module.partition(".")
                    self.assertIn(head, ["lastrows", *LIBRARY], name)
                    allowed = LIBRARY.get(head) or modules[module]
                    self.assertEqual([one.name for one in node.names if one.name not in allowed or one.asname], [], name)

    def test_statements_and_values(self):
        for name, text in sources():
            for node in ast.walk(ast.parse(text)):
                self.assertNotIsInstance(node, BARRED, f"{name}: {getattr(node, 'lineno', '')}")
                if isinstance(node, ast.Constant):
                    self.assertNotIsInstance(node.value, (float, complex), f"{name}: {node.lineno}")
                if isinstance(node, ast.BinOp) and isinstance(node.op, ast.Pow):
                    self.assertIsInstance(node.right, ast.Constant, f"{name}: {node.lineno}")
                    self.assertIn(node.right.value, range(65))

    def test_names(self):
        for name, text in sources():
            tree = ast.parse(text)
            bound = bound_names(tree)
            used = {node.id for node in ast.walk(tree) if isinstance(node, ast.Name)}
            self.assertEqual(sorted(used - bound - BUILTINS), [], name)
            self.assertEqual(sorted(one for one in bound if one.startswith("__") and one not in METHODS), [], name)
            self.assertEqual(sorted(bound & set(dir(builtins)) - METHODS), [], name)

    def test_own_values_that_are_indexed_are_not_iterated_over(self):
        for name, text in sources():
            for node in ast.walk(ast.parse(text)):
                if isinstance(node, ast.ClassDef):
                    methods = [one.name for one in node.body if isinstance(one, ast.FunctionDef)]
                    self.assertEqual("__getitem__" in methods, "__iter__" in methods, f"{name}: {node.name}")
                    self.assertEqual(len(methods), len(set(methods)), f"{name}: {node.name}")
