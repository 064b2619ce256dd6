"""The form of the files of the package: the rules about sizes, characters, imports and names that a look can check."""

import ast
import pathlib
import re
import unittest

ROOT = pathlib.Path(__file__).resolve().parent.parent / "fewersteps"
LIBRARY = {
    "heapq": {"heappush", "heappop", "heapify", "heapreplace", "heappushpop"},
    "math": {"gcd", "lcm", "isqrt", "comb", "perm", "factorial"},
    "itertools": {
        "product", "combinations", "permutations", "chain", "accumulate", "pairwise", "islice", "zip_longest",
    },
    "collections": {"defaultdict", "deque"},
}
DECORATORS = {"property", "classmethod", "staticmethod"}
DOUBLE = set(
    "init eq repr str len enter exit call iter lt le gt ge ne add sub mul floordiv mod pow and or xor lshift rshift "
    "radd rsub rmul rfloordiv rmod rand ror rxor rlshift rrshift iadd isub imul ifloordiv imod ipow iand ior ixor "
    "ilshift irshift neg pos invert abs bool contains getitem setitem".split()
)
BUILTINS = set(
    "len range enumerate zip min max sum abs sorted reversed int str bool bytes list tuple dict set frozenset "
    "isinstance ord repr any all divmod pow Exception ValueError TypeError KeyError IndexError LookupError "
    "ZeroDivisionError ArithmeticError OverflowError RuntimeError NotImplementedError AttributeError StopIteration "
    "NotImplemented property classmethod staticmethod super iter next map type".split()
)
BANNED_NODES = (
    ast.AsyncFunctionDef, ast.AsyncFor, ast.AsyncWith, ast.Await, ast.Global, ast.Div, ast.MatMult, ast.GeneratorExp,
)
BANNED_WORDS = re.compile(r"\b(mro|elements|open|input|law|eval|exec|globals|locals|vars|dir|compile|typing|enum)\b")


def files():
    """All files of the package."""
    return sorted(ROOT.rglob("*.py"))


def trees():
    """Pairs of a file and its syntax tree."""
    return [(path, ast.parse(path.read_text(encoding="ascii"))) for path in files()]


class TestFiles(unittest.TestCase):
    def test_only_plain_files(self):
        for path in ROOT.rglob("*"):
            if "__pycache__" in path.parts:
                continue
            if path.is_dir():
                self.assertTrue((path / "__init__.py").exists(), path)
            else:
                self.assertRegex(path.name, r"^([a-z][a-z0-9_]*|__init__|__main__)\.py$")
            self.assertFalse(path.with_suffix(".py").exists() and path.with_suffix("").is_dir(), path)

    def test_sizes_and_characters(self):
        for path in files():
            lines = path.read_bytes().split(b"\n")
            self.assertLessEqual(len(lines), 399, path)
            for line in lines:
                self.assertLessEqual(len(line), 120, path)
                self.assertTrue(all(32 <= byte <= 126 for byte in line), path)

    def test_functions(self):
        for path, tree in trees():
            for node in ast.walk(tree):
                if isinstance(node, ast.FunctionDef):
                    self.assertLessEqual(node.end_lineno - node.lineno + 1, 40, (path, node.name))


class TestCode(unittest.TestCase):
    def test_imports(self):
        for path, tree in trees():
            for node in ast.walk(tree):
                self.assertNotIsInstance(node, ast.Import, path)
                if not isinstance(node, ast.ImportFrom):
                    continue
                self.assertEqual(node.level, 0)
                self.assertTrue(all(name.asname is None and name.name != "*" for name in node.names))
                if not node.module.startswith("fewersteps."):
                    self.assertTrue({name.name for name in node.names} <= LIBRARY[node.module], path)

    def test_statements(self):
        for path, tree in trees():
            for node in ast.walk(tree):
                self.assertNotIsInstance(node, BANNED_NODES, path)
                self.assertFalse(isinstance(node, ast.Constant) and isinstance(node.value, float), path)
            for node in tree.body:
                self.assertIsInstance(node, (ast.Expr, ast.ImportFrom, ast.FunctionDef, ast.ClassDef, ast.Assign))

    def test_names(self):
        for path, tree in trees():
            for node in ast.walk(tree):
                for name in self.names_of(node):
                    self.assertIsNone(BANNED_WORDS.fullmatch(name), (path, name))
                    if name.startswith("__"):
                        self.assertIn(name.strip("_"), DOUBLE, path)
            for node in tree.body:
                if isinstance(node, ast.FunctionDef):
                    self.assertFalse(node.decorator_list, path)
                if isinstance(node, ast.ClassDef):
                    self.decorators_of(node)

    def names_of(self, node):
        """The names that the node binds or reads."""
        if isinstance(node, (ast.FunctionDef, ast.ClassDef)):
            return [node.name]
        if isinstance(node, ast.Name):
            return [node.id]
        if isinstance(node, ast.Attribute):
            return [node.attr]
        return [node.arg] if isinstance(node, ast.arg) else []

    def decorators_of(self, node):
        self.assertFalse(node.decorator_list)
        for method in node.body:
            for decorator in getattr(method, "decorator_list", []):
                self.assertIn(ast.unparse(decorator).split(".")[-1], DECORATORS | {"setter"})

    def test_builtins(self):
        import builtins
        # The name _ is among them only where some doctest has run.
        barred = set(dir(builtins)) - BUILTINS - {"_"}
        for path, tree in trees():
            for node in ast.walk(tree):
                if isinstance(node, ast.Name):
                    self.assertNotIn(node.id, barred, path)

    def test_one_binding(self):
        for path, tree in trees():
            bound = []
            for node in tree.body:
                if isinstance(node, ast.ImportFrom):
                    bound.extend(name.name for name in node.names)
                elif isinstance(node, (ast.FunctionDef, ast.ClassDef)):
                    bound.append(node.name)
                elif isinstance(node, ast.Assign):
                    bound.extend(target.id for target in node.targets)
            self.assertEqual(len(bound), len(set(bound)), path)
            local = {node.id for node in ast.walk(tree) if isinstance(node, ast.Name)
                     and isinstance(node.ctx, ast.Store)} - {name for name in bound if name.isupper()}
            local |= {node.arg for node in ast.walk(tree) if isinstance(node, ast.arg)}
            self.assertFalse(local & set(bound), path)


if __name__ == "__main__":
    unittest.main()
