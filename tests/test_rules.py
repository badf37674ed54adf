"""Rules for the files of the package that can be told from their text."""

import ast
import builtins
import pathlib
import unittest

PACKAGE = pathlib.Path(__file__).resolve().parent.parent / "flankturns"
FILES = sorted(PACKAGE.glob("*.py"))
LIBRARY = {"math": {"gcd", "lcm", "isqrt", "comb", "perm", "factorial"}, "heapq": {"heappush", "heappop"},
           "itertools": {"combinations"}}
BUILTINS = {"len", "range", "enumerate", "zip", "min", "max", "sum", "abs", "sorted", "reversed", "int", "str", "bool",
            "list", "tuple", "dict", "set", "isinstance", "any", "all", "divmod", "super", "property", "ValueError",
            "NotImplementedError", "True", "False", "None"}
BARRED = (ast.Div, ast.Yield, ast.YieldFrom, ast.Await, ast.AsyncFunctionDef, ast.Global, ast.AnnAssign)


class TestRules(unittest.TestCase):
    def trees(self):
        return [(path, ast.parse(path.read_text())) for path in FILES]

    def test_folder_has_nothing_else(self):
        names = [path.name for path in PACKAGE.iterdir() if path.name != "__pycache__"]
        self.assertTrue(all(name.endswith(".py") for name in names), names)
        self.assertIn("__init__.py", names)

    def test_size_and_signs(self):
        for path in FILES:
            text = path.read_text()
            self.assertLessEqual(len(text.split("\n")), 399, path)
            self.assertTrue(all(len(line) <= 120 for line in text.split("\n")), path)
            self.assertTrue(all(sign == "\n" or " " <= sign <= "~" for sign in text), path)

    def test_functions_are_small_and_told(self):
        for path, tree in self.trees():
            self.assertIsNotNone(ast.get_docstring(tree), path)
            for node in ast.walk(tree):
                if isinstance(node, (ast.FunctionDef, ast.ClassDef)) and node.name != "__init__":
                    self.assertIsNotNone(ast.get_docstring(node), (path, node.name))
                if isinstance(node, ast.FunctionDef):
                    self.assertLessEqual(node.end_lineno - node.lineno + 1, 40, (path, node.name))
                    self.assertIn([one.id for one in node.decorator_list], ([], ["property"]), (path, node.name))

    def test_properties(self):
        properties, others, stored = [], [], []
        for path, tree in self.trees():
            for node in ast.walk(tree):
                if isinstance(node, ast.FunctionDef):
                    (properties if node.decorator_list else others).append(node)
                if isinstance(node, ast.Attribute) and isinstance(node.ctx, ast.Store):
                    stored.append(node.attr)
        self.assertEqual(sorted(node.name for node in properties), ["line", "steps"])
        for node in properties:
            # A docstring and what is returned, an attribute.
            self.assertEqual([type(one) for one in node.body], [ast.Expr, ast.Return])
            self.assertIsInstance(node.body[1].value, ast.Attribute)
            self.assertNotIn(node.name, stored)
            self.assertNotIn(node.name, [one.name for one in others])

    def test_nothing_barred(self):
        for path, tree in self.trees():
            for node in ast.walk(tree):
                self.assertNotIsInstance(node, BARRED, (path, getattr(node, "lineno", 0)))
                if isinstance(node, ast.Constant):
                    self.assertNotIsInstance(node.value, float, path)
                if isinstance(node, ast.Name):
                    allowed = not hasattr(builtins, node.id) or node.id in BUILTINS
                    self.assertTrue(allowed, (path, node.id, node.lineno))

    def test_imports(self):
        for path, tree in self.trees():
            for node in ast.walk(tree):
                self.assertNotIsInstance(node, ast.Import, path)
                if isinstance(node, ast.ImportFrom):
                    names = {one.name for one in node.names}
                    if node.module in LIBRARY:
                        self.assertLessEqual(names, LIBRARY[node.module], path)
                        continue
                    self.assertEqual(node.module.split(".")[0], "flankturns", path)
                    defined = ast.parse((PACKAGE / (node.module.split(".")[1] + ".py")).read_text()).body
                    self.assertLessEqual(names, {getattr(one, "name", "") for one in defined}, path)

    def test_names_mean_one_thing(self):
        for path, tree in self.trees():
            shared = {one.asname or one.name for node in tree.body if isinstance(node, ast.ImportFrom)
                      for one in node.names}
            shared |= {node.name for node in tree.body if isinstance(node, (ast.ClassDef, ast.FunctionDef))}
            for node in ast.walk(tree):
                if isinstance(node, ast.Name) and isinstance(node.ctx, ast.Store):
                    self.assertNotIn(node.id, shared, (path, node.lineno))
                    self.assertFalse(hasattr(builtins, node.id), (path, node.id))
                if isinstance(node, ast.arg):
                    self.assertNotIn(node.arg, shared, (path, node.lineno))
                    self.assertFalse(hasattr(builtins, node.arg), (path, node.arg))
