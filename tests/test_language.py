"""The rules for the code of the package that a test can check: sizes, characters, imports, statements."""

import ast
import builtins
import os
import unittest

import lastrows

FOLDER = os.path.dirname(lastrows.__file__)
LIBRARY = {"math": {"gcd", "lcm", "isqrt", "comb", "perm", "factorial"}}
BARRED = (ast.AsyncFunctionDef, ast.Await, ast.Global, ast.AnnAssign, ast.GeneratorExp, ast.Set, ast.SetComp, ast.Div,
          ast.MatMult, ast.TryStar, ast.Import)
BUILTINS = set("""len range enumerate zip min max sum abs sorted reversed int str bool list tuple dict isinstance ord repr
iter any all divmod ValueError TypeError NotImplemented staticmethod classmethod property""".split())
METHODS = set("""__init__ __eq__ __str__ __len__ __call__ __iter__ __add__ __sub__ __mul__ __rmul__ __floordiv__ __pow__
__neg__ __abs__ __getitem__""".split())


def sources():
    for name in sorted(os.listdir(FOLDER)):
        if name.endswith(".py"):
            with open(os.path.join(FOLDER, name), encoding="utf-8") as file:
                yield name, file.read()


def bound_names(tree):
    """Returns the names that a file gives a meaning anywhere."""
    found = set()
    for node in ast.walk(tree):
        if isinstance(node, (ast.FunctionDef, ast.ClassDef)):
            found.add(node.name)
        elif isinstance(node, ast.arg):
            found.add(node.arg)
        elif isinstance(node, ast.alias):
            found.add(node.name)
        elif isinstance(node, ast.ExceptHandler):
            found.add(node.name)
        elif isinstance(node, ast.Name) and isinstance(node.ctx, ast.Store):
            found.add(node.id)
    return found


class LanguageTest(unittest.TestCase):
    def test_the_folder_holds_nothing_but_files_of_python(self):
        self.assertEqual([name for name in os.listdir(FOLDER) if not name.endswith(".py") and name != "__pycache__"], [])

    def test_sizes_and_characters(self):
        for name, text in sources():
            lines = text.split("\n")
            self.assertLessEqual(len(lines), 399, name)
            self.assertLessEqual(max(len(line) for line in lines), 120, name)
            self.assertEqual([sign for sign in text if sign != "\n" and not " " <= sign <= "~"], [], name)
            for node in ast.walk(ast.parse(text)):
                if isinstance(node, ast.FunctionDef):
                    self.assertLessEqual(node.end_lineno - node.lineno + 1, 40, f"{name}: {node.name}")

    def test_imports(self):
        modules = {name[:-3]: {node.name for node in ast.parse(text).body
                               if isinstance(node, (ast.FunctionDef, ast.ClassDef))} for name, text in sources()}
        for name, text in sources():
            for node in ast.walk(ast.parse(text)):
                if isinstance(node, ast.ImportFrom):
                    head, _, module = node.module.partition(".")
                    self.assertIn(head, ["lastrows", *LIBRARY], name)
                    allowed = LIBRARY.get(head) or modules[module]
                    self.assertEqual([one.name for one in node.names if one.name not in allowed or one.asname], [], name)

    def test_statements_and_values(self):
        for name, text in sources():
            for node in ast.walk(ast.parse(text)):
                self.assertNotIsInstance(node, BARRED, f"{name}: {getattr(node, 'lineno', '')}")
                if isinstance(node, ast.Constant):
                    self.assertNotIsInstance(node.value, (float, complex), f"{name}: {node.lineno}")
                if isinstance(node, ast.BinOp) and isinstance(node.op, ast.Pow):
                    self.assertIsInstance(node.right, ast.Constant, f"{name}: {node.lineno}")
                    self.assertIn(node.right.value, range(65))

    def test_names(self):
        for name, text in sources():
            tree = ast.parse(text)
            bound = bound_names(tree)
            used = {node.id for node in ast.walk(tree) if isinstance(node, ast.Name)}
            self.assertEqual(sorted(used - bound - BUILTINS), [], name)
            self.assertEqual(sorted(one for one in bound if one.startswith("__") and one not in METHODS), [], name)
            self.assertEqual(sorted(bound & set(dir(builtins)) - METHODS), [], name)

    def test_own_values_that_are_indexed_have_an_iter(self):
        for name, text in sources():
            for node in ast.walk(ast.parse(text)):
                if isinstance(node, ast.ClassDef):
                    methods = [one.name for one in node.body if isinstance(one, ast.FunctionDef)]
                    self.assertTrue("__iter__" in methods or "__getitem__" not in methods, f"{name}: {node.name}")
                    self.assertEqual(len(methods), len(set(methods)), f"{name}: {node.name}")

    def test_local_names_are_not_those_of_imports_and_classes(self):
        for name, text in sources():
            tree = ast.parse(text)
            taken = {one.name for node in tree.body if isinstance(node, ast.ImportFrom) for one in node.names}
            taken |= {node.name for node in tree.body if isinstance(node, ast.ClassDef)}
            local = {node.arg for node in ast.walk(tree) if isinstance(node, ast.arg)}
            local |= {node.id for node in ast.walk(tree)
                      if isinstance(node, ast.Name) and isinstance(node.ctx, ast.Store)}
            self.assertEqual(sorted(taken & local), [], name)

    def test_attributes_are_not_methods(self):
        methods, attributes = set(), set()
        for _, text in sources():
            for node in ast.walk(ast.parse(text)):
                if isinstance(node, ast.ClassDef):
                    methods |= {one.name for one in node.body if isinstance(one, ast.FunctionDef)}
                elif isinstance(node, ast.Attribute) and isinstance(node.ctx, ast.Store):
                    attributes.add(node.attr)
        self.assertEqual(sorted(methods & attributes), [])

    def test_generators_are_iterated_at_once(self):
        generators, others = set(), set()
        for _, text in sources():
            for node in ast.walk(ast.parse(text)):
                if isinstance(node, ast.FunctionDef):
                    yields = any(isinstance(one, (ast.Yield, ast.YieldFrom)) for one in ast.walk(node))
                    (generators if yields else others).add(node.name)
        self.assertEqual(generators, {"walk_rows", "forgetful_rows", "steps"})
        self.assertEqual(generators & others, set())
        for name, text in sources():
            tree = ast.parse(text)
            iterated = [node.value for node in ast.walk(tree) if isinstance(node, ast.YieldFrom)]
            iterated += [node.iter for node in ast.walk(tree) if isinstance(node, (ast.For, ast.comprehension))]
            iterated += [node.args[0] for node in ast.walk(tree) if isinstance(node, ast.Call) and node.args
                         and isinstance(node.func, ast.Name) and node.func.id in ("list", "tuple")]
            for node in ast.walk(tree):
                if isinstance(node, ast.Call):
                    called = node.func.id if isinstance(node.func, ast.Name) else getattr(node.func, "attr", "")
                    self.assertTrue(called not in generators or node in iterated, f"{name}: {node.lineno}")

    def test_tables_are_read_in_their_own_file_only(self):
        for name, text in sources():
            tree = ast.parse(text)
            tables = [one.id for node in tree.body if isinstance(node, ast.Assign) for one in node.targets
                      if isinstance(node.value, (ast.Dict, ast.List))]
            read = [node.value.id for node in ast.walk(tree) if isinstance(node, ast.Subscript)
                    and isinstance(node.value, ast.Name)]
            tested = [node.comparators[0].id for node in ast.walk(tree) if isinstance(node, ast.Compare)
                      and isinstance(node.ops[0], (ast.In, ast.NotIn)) and isinstance(node.comparators[0], ast.Name)]
            used = [node.id for node in ast.walk(tree) if isinstance(node, ast.Name) and isinstance(node.ctx, ast.Load)]
            for table in tables:
                self.assertEqual(used.count(table), read.count(table) + tested.count(table), f"{name}: {table}")
