"""Those rules of the language that can be seen at a glance: sizes, characters, imports, names and signs."""

import ast
import builtins
import unittest
from pathlib import Path

PACKAGE = Path(__file__).resolve().parent.parent / "everybowl"
FILES = sorted(PACKAGE.rglob("*.py"))
LIBRARY = {"math": {"gcd", "lcm", "isqrt", "comb", "perm", "factorial"}}
ALLOWED_BUILTINS = {
    "len", "range", "enumerate", "zip", "min", "max", "sum", "abs", "sorted", "reversed", "map", "int", "str", "bool",
    "list", "tuple", "dict", "set", "isinstance", "ord", "repr", "any", "all", "divmod", "pow", "iter", "next",
    "getattr", "hasattr", "setattr", "Exception", "ValueError", "TypeError", "KeyError", "IndexError", "LookupError",
    "ZeroDivisionError", "ArithmeticError", "OverflowError", "RuntimeError", "NotImplementedError", "AttributeError",
    "StopIteration", "NotImplemented", "property", "classmethod", "staticmethod", "super",
}
DECORATORS = {"property", "classmethod", "staticmethod"}
CHANGES = {"append", "extend", "insert", "pop", "remove", "clear", "update", "setdefault", "reverse"}
# These may change things; all other double-underscore methods change nothing and call nothing that they hold.
FREE_METHODS = {"__init__", "__call__", "__iter__", "__enter__", "__exit__"}
BUILTIN_METHODS = {name for kind in (str, bytes, int, list, tuple, dict, set) for name in dir(kind)}
STARRED_BUILTINS = {"max", "min", "zip"}
TAKE_LISTS = {"any", "all", "min", "max", "sum", "sorted"}
BARRED = {"register", "mro", "elements", "open", "input", "law", "type", "id", "vars", "dir", "hash", "sort"}


def nodes(kind):
    """All nodes of a kind, each with its file."""
    return [(path.name, node) for path in FILES for node in ast.walk(ast.parse(path.read_text("ascii")))
            if isinstance(node, kind)]


def trees():
    """The tree of each file, under the name of its module."""
    return {path.stem: ast.parse(path.read_text("ascii")) for path in FILES}


def imports_of(tree):
    """The modules of the package that a file imports from, each with the names that it takes."""
    return {node.module.split(".")[1]: {word.name for word in node.names} for node in tree.body
            if isinstance(node, ast.ImportFrom) and node.module.startswith("everybowl.")}


def defined_in(tree):
    """The names that a file defines at module level."""
    found = {node.name for node in tree.body if isinstance(node, (ast.FunctionDef, ast.ClassDef))}
    return found | {node.targets[0].id for node in tree.body if isinstance(node, ast.Assign)}


class Rules(unittest.TestCase):
    def test_folder(self):
        found = [path for path in PACKAGE.rglob("*") if path.suffix != ".py" and "__pycache__" not in path.parts]
        self.assertEqual(found, [])

    def test_sizes_and_characters(self):
        for path in FILES:
            lines = path.read_text("ascii").split("\n")
            self.assertLess(len(lines), 400, path.name)
            for line in lines:
                self.assertLessEqual(len(line), 120, path.name)
                self.assertTrue(all(" " <= sign <= "~" for sign in line), f"{path.name}: {line}")
        for name, node in nodes(ast.FunctionDef):
            self.assertLessEqual(node.end_lineno - node.lineno + 1, 40, f"{name}: {node.name}")

    def test_imports(self):
        self.assertEqual(nodes(ast.Import), [])
        for name, node in nodes(ast.ImportFrom):
            if node.module in LIBRARY:
                self.assertLessEqual({word.name for word in node.names}, LIBRARY[node.module], name)
            else:
                self.assertTrue(node.module.startswith("everybowl.") and node.level == 0, name)
            self.assertTrue(all(word.asname is None and word.name != "*" for word in node.names), name)

    def test_what_is_not_used(self):
        for name, node in nodes((ast.Div, ast.Global, ast.AsyncFunctionDef, ast.AsyncFor, ast.Await)):
            self.fail(f"{name}: {node.__class__.__name__}")

    def test_lists_instead_of_generators(self):
        for name, node in nodes(ast.Call):
            if getattr(node.func, "id", None) in TAKE_LISTS:
                self.assertFalse(any(isinstance(part, ast.GeneratorExp) for part in node.args), name)

    def test_decorators(self):
        for name, node in nodes(ast.FunctionDef):
            for decorator in node.decorator_list:
                setter = ast.unparse(decorator) == f"{node.name}.setter"
                self.assertTrue(setter or getattr(decorator, "id", None) in DECORATORS, f"{name}: {node.name}")

    def test_numbers_and_strings(self):
        for name, node in nodes(ast.Constant):
            self.assertNotIsInstance(node.value, (float, complex), name)
            self.assertNotIn(chr(37), str(node.value)[:10000], name)
        for name, node in nodes(ast.BinOp):
            if isinstance(node.op, ast.Pow):
                self.assertTrue(isinstance(node.right, ast.Constant) and 0 <= node.right.value <= 64, name)

    def test_names(self):
        # The rows of README.md leave their last value under the name _.
        known = set(dir(builtins)) - {"_"}
        for name, node in nodes(ast.Name):
            if node.id in known:
                self.assertIn(node.id, ALLOWED_BUILTINS, name)
                self.assertIsInstance(node.ctx, ast.Load, name)
            self.assertNotIn(node.id, BARRED, name)
        for name, node in nodes(ast.arg):
            self.assertNotIn(node.arg, known | BARRED, name)
        for name, node in nodes((ast.FunctionDef, ast.ClassDef)):
            self.assertNotIn(node.name, known | BARRED, name)
        for name, node in nodes(ast.Attribute):
            self.assertNotIn(node.attr, BARRED | {"format", "args"}, name)

    def test_names_of_imports_and_classes_are_not_used_again(self):
        for module, tree in trees().items():
            taken = {word.name for node in tree.body if isinstance(node, ast.ImportFrom) for word in node.names}
            for node in tree.body:
                if isinstance(node, (ast.FunctionDef, ast.ClassDef)):
                    self.assertNotIn(node.name, taken, module)
                    taken.add(node.name)
            functions = {node.name for node in tree.body if isinstance(node, ast.FunctionDef)}
            for node in ast.walk(tree):
                if isinstance(node, ast.arg):
                    self.assertNotIn(node.arg, taken - functions, module)
                if isinstance(node, ast.Name) and isinstance(node.ctx, ast.Store):
                    self.assertNotIn(node.id, taken - functions, module)

    def test_names_are_imported_from_where_they_are_defined(self):
        files = trees()
        for module, tree in files.items():
            for other, names in imports_of(tree).items():
                self.assertLessEqual(names, defined_in(files[other]), module)

    def test_all_imports_are_used(self):
        for module, tree in trees().items():
            used = {node.id for node in ast.walk(tree) if isinstance(node, ast.Name)}
            for node in tree.body:
                if isinstance(node, ast.ImportFrom):
                    self.assertLessEqual({word.name for word in node.names}, used, module)

    def test_no_circle_of_imports(self):
        files = {module: set(imports_of(tree)) for module, tree in trees().items()}
        while files:
            free = [module for module, needs in files.items() if not needs & set(files)]
            self.assertNotEqual(free, [])
            files = {module: needs for module, needs in files.items() if module not in free}

    def test_sets_stand_in_sorted_and_len_alone(self):
        for path in FILES:
            for node in ast.walk(ast.parse(path.read_text("ascii"))):
                fits = isinstance(node, ast.Call) and getattr(node.func, "id", None) in ("sorted", "len")
                for part in ast.iter_child_nodes(node):
                    made = isinstance(part, ast.Call) and getattr(part.func, "id", None) == "set"
                    if made or isinstance(part, (ast.Set, ast.SetComp)):
                        self.assertTrue(fits, f"{path.name}: {part.lineno}")

    def test_generators_are_not_called_by_the_package(self):
        files = trees()
        made = {node.name for tree in files.values() for node in ast.walk(tree)
                if isinstance(node, ast.FunctionDef) and any(isinstance(part, (ast.Yield, ast.YieldFrom))
                                                             for part in ast.walk(node))}
        self.assertEqual(made, {"subsets", "price_steps", "turning", "orders"})
        for module, tree in files.items():
            names = [node.id for node in ast.walk(tree) if isinstance(node, ast.Name)]
            names += [node.arg for node in ast.walk(tree) if isinstance(node, ast.arg)]
            self.assertEqual([name for name in names if name in made], [], module)

    def test_loops_do_not_change_what_they_walk(self):
        """Neither by its name nor by a name that it has through a plain assignment."""
        for name, function in nodes(ast.FunctionDef):
            for loop in ast.walk(function):
                if isinstance(loop, ast.For):
                    walked = names_walked(function, loop.iter)
                    changed = [part.func.value for row in loop.body for part in ast.walk(row)
                               if isinstance(part, ast.Call) and isinstance(part.func, ast.Attribute)
                               and part.func.attr in CHANGES]
                    changed += [part.value for row in loop.body for part in ast.walk(row)
                                if isinstance(part, ast.Subscript) and not isinstance(part.ctx, ast.Load)]
                    self.assertFalse({ast.unparse(part) for part in changed} & walked, f"{name}: {loop.lineno}")

    def test_what_operators_and_properties_run_calls_nothing_held(self):
        """Neither a method with the name of an attribute, nor what the function was handed or keeps."""
        attributes = stored_attributes()
        self.assertIn("count", attributes)
        for root in run_by_itself():
            for name, function in reached_from(root):
                kept = names_kept(function)
                for call in calls_in(function):
                    where = f"{name}: {call.lineno}, run by {root.name}"
                    self.assertNotIn(getattr(call.func, "attr", None), attributes, where)
                    self.assertNotIn(getattr(call.func, "id", None), kept, where)

    def test_stars_stand_in_calls_of_own_names(self):
        """Not in a call of a method that a value of Python's own has, too."""
        barred = set(dir(builtins)) - STARRED_BUILTINS
        properties = {node.name for node in run_by_itself()}
        for name, call in nodes(ast.Call):
            where = f"{name}: {call.lineno}"
            self.assertTrue(all(word.arg is not None for word in call.keywords), where)
            for part in [part.value for part in call.args if isinstance(part, ast.Starred)]:
                self.assertNotIn(getattr(call.func, "attr", None), BUILTIN_METHODS, where)
                self.assertNotIn(getattr(call.func, "id", None), barred, where)
                self.assertIsInstance(part, (ast.Name, ast.Attribute), where)
                self.assertNotIn(getattr(part, "attr", None), properties, where)


def calls_in(function):
    return [node for node in ast.walk(function) if isinstance(node, ast.Call)]


def stored_attributes():
    """The names of all attributes that some method or function assigns."""
    return {node.attr for _, node in nodes(ast.Attribute) if isinstance(node.ctx, ast.Store)}


def names_kept(function):
    """The parameters of a function, and the names that it assigns."""
    found = {node.arg for node in ast.walk(function) if isinstance(node, ast.arg)}
    return found | {node.id for node in ast.walk(function)
                    if isinstance(node, ast.Name) and isinstance(node.ctx, ast.Store)}


def run_by_itself():
    """The operators and properties, and the methods that show, measure and compare."""
    found = []
    for _, node in nodes(ast.ClassDef):
        for method in node.body:
            if isinstance(method, ast.FunctionDef):
                read = any(getattr(decorator, "id", None) == "property" for decorator in method.decorator_list)
                if read or method.name.startswith("__") and method.name not in FREE_METHODS:
                    found.append(method)
    return found


def defined_by_name():
    """For each name the functions, methods and makers of objects that a call of it may run, each with its file."""
    found = {}
    for name, node in nodes((ast.FunctionDef, ast.ClassDef)):
        if isinstance(node, ast.FunctionDef):
            found.setdefault(node.name, []).append((name, node))
        else:
            makers = [part for part in node.body if getattr(part, "name", None) == "__init__"]
            found.setdefault(node.name, []).extend([(name, part) for part in makers])
    return found


def reached_from(root):
    """A function and all that it runs, by the names that are called."""
    defined = defined_by_name()
    found, fresh = [], [place for place in defined[root.name] if ast.dump(place[1]) == ast.dump(root)]
    while fresh:
        place = fresh.pop()
        if ast.dump(place[1]) not in [ast.dump(known) for _, known in found]:
            found.append(place)
            for call in calls_in(place[1]):
                fresh += defined.get(getattr(call.func, "attr", None) or getattr(call.func, "id", None), [])
    return found


def names_walked(function, walked):
    """The names and attributes that a loop goes over, unless it goes over a copy."""
    if isinstance(walked, ast.Call) and getattr(walked.func, "id", None) in ("list", "sorted", "tuple"):
        return set()
    found = {ast.unparse(part) for part in ast.walk(walked) if isinstance(part, (ast.Name, ast.Attribute))}
    given = [(ast.unparse(target), ast.unparse(node.value)) for node in ast.walk(function)
             if isinstance(node, ast.Assign) for target in node.targets]
    for _ in given:
        found |= {value for name, value in given if name in found} | {name for name, value in given if value in found}
    return found
