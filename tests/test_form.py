"""The form of the package's files: what can be told mechanically of the subset of Python that it uses."""

import ast
import builtins
import re
import unittest
from pathlib import Path

PACKAGE = Path(__file__).resolve().parent.parent / "signfours"
FILES = sorted(PACKAGE.rglob("*.py"))
TREES = {path: ast.parse(path.read_text()) for path in FILES}

LIBRARY = {
    "math": {"gcd", "lcm", "isqrt", "comb", "perm", "factorial"},
    "heapq": {"heappush", "heappop", "heapify", "heapreplace", "heappushpop"},
    "itertools": {
        "product", "combinations", "permutations", "chain", "accumulate", "pairwise", "islice", "zip_longest",
    },
    "collections": {"defaultdict", "deque"},
}
BUILTINS = set(
    "len range enumerate zip min max sum abs sorted reversed int str bool list tuple dict set isinstance ord repr any "
    "all divmod map iter Exception ValueError TypeError KeyError IndexError LookupError ZeroDivisionError "
    "ArithmeticError OverflowError RuntimeError NotImplementedError AttributeError NotImplemented property "
    "staticmethod classmethod".split()
)
METHODS = set(
    "append clear copy count endswith extend find get index insert isalnum isalpha isdigit islower isspace isupper "
    "items join keys ljust lower lstrip partition pop remove replace reverse rfind rjust rpartition rsplit rstrip "
    "setdefault split splitlines startswith strip update upper values zfill bit_length title capitalize swapcase "
    "casefold removeprefix removesuffix rindex isascii isdecimal isnumeric add discard __init__".split()
)
SPECIAL = set(
    "__init__ __eq__ __repr__ __str__ __len__ __iter__ __add__ __sub__ __mul__ __and__ __neg__ __bool__ "
    "__contains__ __getitem__".split()
)
BARRED = set(
    "register mro elements open input law version_info with_traceback add_note type typing enum Enum eval exec exit "
    "getattr setattr hasattr globals locals vars dir help id license quit super os sys gc compile".split()
)


def names_bound(tree):
    """The names that a tree binds: functions, classes, imports, arguments and assigned names."""
    for node in ast.walk(tree):
        if isinstance(node, (ast.FunctionDef, ast.ClassDef)):
            yield node.name
        elif isinstance(node, ast.alias):
            yield node.asname or node.name
        elif isinstance(node, ast.arg):
            yield node.arg
        elif isinstance(node, ast.Name) and isinstance(node.ctx, ast.Store):
            yield node.id


def functions(tree):
    return [node for node in ast.walk(tree) if isinstance(node, ast.FunctionDef)]


def is_docstring(node):
    return isinstance(node, ast.Expr) and isinstance(node.value, ast.Constant) and isinstance(node.value.value, str)


def module_of(path):
    parts = path.relative_to(PACKAGE.parent).with_suffix("").parts
    return ".".join(part for part in parts if part != "__init__")


class Files(unittest.TestCase):

    def test_folder(self):
        for path in PACKAGE.rglob("*"):
            if "__pycache__" in path.parts:
                continue
            if path.is_dir():
                self.assertTrue((path / "__init__.py").exists(), path)
                self.assertFalse(path.with_suffix(".py").exists(), path)
            else:
                self.assertEqual(path.suffix, ".py", path)
            self.assertRegex(path.stem, r"^[a-z0-9_]+$")
            self.assertNotIn(path.stem, dir(builtins))
            self.assertFalse(path.stem.startswith(("law_", "test")), path)

    def test_lines_and_characters(self):
        for path in FILES:
            text = path.read_text()
            self.assertTrue(all(" " <= sign <= "~" or sign == "\n" for sign in text), path)
            self.assertLessEqual(len(text.splitlines()), 399, path)
            self.assertLessEqual(max([len(line) for line in text.splitlines()], default=0), 120, path)

    def test_function_sizes(self):
        for path, tree in TREES.items():
            for node in functions(tree):
                self.assertLessEqual(node.end_lineno - node.lineno + 1, 40, (path, node.name))

    def test_module_level(self):
        for path, tree in TREES.items():
            for at, node in enumerate(tree.body):
                if isinstance(node, ast.Assign):
                    self.assertTrue(len(node.targets) == 1 and isinstance(node.targets[0], ast.Name), path)
                else:
                    plain = isinstance(node, (ast.ImportFrom, ast.FunctionDef, ast.ClassDef))
                    self.assertTrue(plain or (at == 0 and is_docstring(node)), (path, node.lineno))
            bound = [name for node in tree.body for name in self.bound_by(node)]
            self.assertEqual(len(bound), len(set(bound)), path)

    def bound_by(self, node):
        if isinstance(node, ast.ImportFrom):
            return [alias.name for alias in node.names]
        if isinstance(node, ast.Assign):
            return [node.targets[0].id]
        return [node.name] if isinstance(node, (ast.FunctionDef, ast.ClassDef)) else []


class Imports(unittest.TestCase):

    def imported(self, tree):
        return [node for node in ast.walk(tree) if isinstance(node, (ast.Import, ast.ImportFrom))]

    def test_form(self):
        defined = {module_of(path): {name for node in tree.body for name in Files.bound_by(self, node)
                                     if not isinstance(node, ast.ImportFrom)} for path, tree in TREES.items()}
        for path, tree in TREES.items():
            for node in self.imported(tree):
                self.assertIsInstance(node, ast.ImportFrom, path)
                self.assertEqual(node.level, 0, path)
                for alias in node.names:
                    self.assertIsNone(alias.asname, path)
                    known = LIBRARY.get(node.module) or defined.get(node.module, set())
                    self.assertIn(alias.name, known, (path, node.module))

    def test_no_circle(self):
        edges = {module_of(path): {node.module for node in self.imported(tree) if node.module in
                                   {module_of(other) for other in FILES}} for path, tree in TREES.items()}
        while edges:
            free = [name for name, used in edges.items() if not used & set(edges)]
            self.assertTrue(free, sorted(edges))
            for name in free:
                del edges[name]

    def test_all_are_used(self):
        for path, tree in TREES.items():
            bound = {alias.name for node in self.imported(tree) for alias in node.names}
            used = {node.id for node in ast.walk(tree) if isinstance(node, ast.Name)}
            self.assertEqual(bound - used, set(), path)

    def test_no_other_meaning(self):
        for path, tree in TREES.items():
            taken = {name for node in tree.body if isinstance(node, (ast.ImportFrom, ast.ClassDef))
                     for name in Files.bound_by(self, node)}
            for function in functions(tree):
                inner = [node.arg for node in ast.walk(function) if isinstance(node, ast.arg)]
                inner += [node.id for node in ast.walk(function)
                          if isinstance(node, ast.Name) and isinstance(node.ctx, ast.Store)]
                self.assertFalse(set(inner) & taken, (path, function.name))


class Names(unittest.TestCase):

    def test_bound_names(self):
        for path, tree in TREES.items():
            for name in names_bound(tree):
                if name in SPECIAL or (path.name == "errors.py" and name not in dir(builtins)):
                    continue
                self.assertRegex(name, r"^_?[A-Za-z][A-Za-z0-9_]*$|^_$")
                self.assertNotIn(name, dir(builtins), path)
                self.assertNotIn(name, BARRED, path)

    def test_used_names(self):
        for path, tree in TREES.items():
            bound = set(names_bound(tree))
            for node in ast.walk(tree):
                if isinstance(node, ast.Name) and isinstance(node.ctx, ast.Load) and node.id not in bound:
                    self.assertIn(node.id, BUILTINS, (path, node.lineno))

    def test_methods(self):
        own = {node.name for tree in TREES.values() for node in functions(tree)}
        for path, tree in TREES.items():
            for node in ast.walk(tree):
                if isinstance(node, ast.Call) and isinstance(node.func, ast.Attribute):
                    self.assertIn(node.func.attr, METHODS | own, (path, node.lineno))
                if isinstance(node, ast.Attribute):
                    self.assertFalse(node.attr.startswith("__") and node.attr not in SPECIAL, (path, node.lineno))
                    self.assertNotIn(node.attr, {"format", "format_map", "mro"})

    def test_special_methods(self):
        for path, tree in TREES.items():
            for node in functions(tree):
                if node.name.startswith("__"):
                    self.assertIn(node.name, SPECIAL, path)
                if node.name == "__init__":
                    self.assertFalse([inner for inner in ast.walk(node) if isinstance(inner, ast.Return)], path)
                if node.name in ("__str__", "__repr__", "__len__"):
                    self.assertIsInstance(node.body[-1], ast.Return, path)


class Statements(unittest.TestCase):

    def nodes(self, kinds):
        return [(path, node) for path, tree in TREES.items() for node in ast.walk(tree) if isinstance(node, kinds)]

    def test_kinds_that_are_not_used(self):
        kinds = (ast.Global, ast.AsyncFunctionDef, ast.Await, ast.Div, ast.MatMult, ast.Lambda, ast.NamedExpr, ast.Set)
        self.assertEqual(self.nodes(kinds), [])

    def test_numbers_and_strings(self):
        for path, node in self.nodes(ast.Constant):
            self.assertNotIsInstance(node.value, (float, complex), (path, node.lineno))
            if isinstance(node.value, str):
                self.assertFalse(re.search(r"[\\]", node.value.replace("\n", "")), (path, node.lineno))
                self.assertNotIn("%", node.value, (path, node.lineno))

    def test_exponents(self):
        for path, node in self.nodes(ast.BinOp):
            if isinstance(node.op, ast.Pow):
                self.assertIsInstance(node.right, ast.Constant, (path, node.lineno))
                self.assertIn(node.right.value, range(65))

    def test_handlers(self):
        self.assertFalse([path for path, node in self.nodes(ast.ExceptHandler) if node.type is None])

    def test_raised_errors(self):
        for path, node in self.nodes(ast.Raise):
            self.assertIsInstance(node.exc, ast.Call, (path, node.lineno))

    def test_generators(self):
        # Classes have `__eq__`, so `any`, `all` and their kin take lists.
        for path, node in self.nodes(ast.Call):
            if isinstance(node.func, ast.Name) and node.func.id in ("any", "all", "min", "max", "sum", "sorted"):
                self.assertFalse([one for one in node.args if isinstance(one, ast.GeneratorExp)], (path, node.lineno))

    def test_stars_in_calls(self):
        for path, node in self.nodes(ast.Call):
            for one in node.args:
                if isinstance(one, ast.Starred):
                    self.assertIsInstance(one.value, (ast.Name, ast.Attribute), (path, node.lineno))

    def test_kept_answers(self):
        # A name that begins with an underscore is assigned None in an `__init__`, and else stands in a property alone.
        for path, tree in TREES.items():
            for function in functions(tree):
                kept = [node for node in ast.walk(function) if isinstance(node, ast.Attribute) and node.attr.startswith("_")]
                decorated = [getattr(one, "id", None) for one in function.decorator_list]
                if [node for node in kept if not node.attr.startswith("__")] and function.name != "__init__":
                    self.assertEqual(decorated, ["property"], (path, function.name))
                    self.assertEqual(len(function.body), 3, (path, function.name))

    def test_decorators(self):
        for path, node in self.nodes((ast.FunctionDef, ast.ClassDef)):
            for one in node.decorator_list:
                self.assertIn(getattr(one, "id", None), ("property", "staticmethod", "classmethod"), path)


if __name__ == "__main__":
    unittest.main()
