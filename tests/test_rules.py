"""Those rules of the language that can be seen at a glance: sizes, characters, imports, names and signs."""

import ast
import builtins
import unittest
from pathlib import Path

PACKAGE = Path(__file__).resolve().parent.parent / "everybowl"
FILES = sorted(PACKAGE.rglob("*.py"))
LIBRARY = {"math": {"gcd", "lcm", "isqrt", "comb", "perm", "factorial"}}
ALLOWED_BUILTINS = {
    "len", "range", "enumerate", "zip", "min", "max", "sum", "abs", "sorted", "reversed", "map", "int", "str", "bool",
    "list", "tuple", "dict", "set", "isinstance", "ord", "repr", "any", "all", "divmod", "pow", "iter", "next",
    "getattr", "hasattr", "setattr", "Exception", "ValueError", "TypeError", "KeyError", "IndexError", "LookupError",
    "ZeroDivisionError", "ArithmeticError", "OverflowError", "RuntimeError", "NotImplementedError", "AttributeError",
    "StopIteration", "NotImplemented", "property", "classmethod", "staticmethod", "super",
}
DECORATORS = {"property", "classmethod", "staticmethod"}
TAKE_LISTS = {"any", "all", "min", "max", "sum", "sorted"}
BARRED = {"register", "mro", "elements", "open", "input", "law", "type", "id", "vars", "dir", "hash", "sort"}


def nodes(kind):
    """All nodes of a kind, each with its file."""
    return [(path.name, node) for path in FILES for node in ast.walk(ast.parse(path.read_text("ascii")))
            if isinstance(node, kind)]


class Rules(unittest.TestCase):
    def test_folder(self):
        found = [path for path in PACKAGE.rglob("*") if path.suffix != ".py" and "__pycache__" not in path.parts]
        self.assertEqual(found, [])

    def test_sizes_and_characters(self):
        for path in FILES:
            lines = path.read_text("ascii").split("\n")
            self.assertLess(len(lines), 400, path.name)
            for line in lines:
                self.assertLessEqual(len(line), 120, path.name)
                self.assertTrue(all(" " <= sign <= "~" for sign in line), f"{path.name}: {line}")
        for name, node in nodes(ast.FunctionDef):
            self.assertLessEqual(node.end_lineno - node.lineno + 1, 40, f"{name}: {node.name}")

    def test_imports(self):
        self.assertEqual(nodes(ast.Import), [])
        for name, node in nodes(ast.ImportFrom):
            if node.module in LIBRARY:
                self.assertLessEqual({word.name for word in node.names}, LIBRARY[node.module], name)
            else:
                self.assertTrue(node.module.startswith("everybowl.") and node.level == 0, name)
            self.assertTrue(all(word.asname is None and word.name != "*" for word in node.names), name)

    def test_what_is_not_used(self):
        for name, node in nodes((ast.Div, ast.Global, ast.AsyncFunctionDef, ast.AsyncFor, ast.Await)):
            self.fail(f"{name}: {node.__class__.__name__}")

    def test_lists_instead_of_generators(self):
        for name, node in nodes(ast.Call):
            if getattr(node.func, "id", None) in TAKE_LISTS:
                self.assertFalse(any(isinstance(part, ast.GeneratorExp) for part in node.args), name)

    def test_decorators(self):
        for name, node in nodes(ast.FunctionDef):
            for decorator in node.decorator_list:
                self.assertIn(getattr(decorator, "id", None), DECORATORS, f"{name}: {node.name}")

    def test_numbers_and_strings(self):
        for name, node in nodes(ast.Constant):
            self.assertNotIsInstance(node.value, (float, complex), name)
            self.assertNotIn(chr(37), str(node.value)[:10000], name)
        for name, node in nodes(ast.BinOp):
            if isinstance(node.op, ast.Pow):
                self.assertTrue(isinstance(node.right, ast.Constant) and 0 <= node.right.value <= 64, name)

    def test_names(self):
        known = set(dir(builtins))
        for name, node in nodes(ast.Name):
            if node.id in known:
                self.assertIn(node.id, ALLOWED_BUILTINS, name)
                self.assertIsInstance(node.ctx, ast.Load, name)
            self.assertNotIn(node.id, BARRED, name)
        for name, node in nodes(ast.arg):
            self.assertNotIn(node.arg, known | BARRED, name)
        for name, node in nodes((ast.FunctionDef, ast.ClassDef)):
            self.assertNotIn(node.name, known | BARRED, name)
        for name, node in nodes(ast.Attribute):
            self.assertNotIn(node.attr, BARRED | {"format", "args"}, name)
