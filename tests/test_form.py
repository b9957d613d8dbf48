"""The form of the package's code: those rules of LANGUAGE.md that can be seen by simple means."""

import ast
import builtins
import pathlib
import re
import sys
import tokenize
import unittest

PACKAGE = pathlib.Path(__file__).resolve().parent.parent / "keptqubits"
FILES = sorted(path for path in PACKAGE.rglob("*") if "__pycache__" not in path.parts)

LIBRARY = {
    "math": {"gcd", "lcm", "isqrt", "comb", "perm", "factorial"},
    "heapq": {"heappush", "heappop", "heapify", "heapreplace", "heappushpop"},
    "itertools": {"product", "combinations", "permutations", "chain", "accumulate", "pairwise", "islice", "zip_longest"},
    "collections": {"defaultdict"},
}
BUILTINS = set("""len range enumerate zip min max sum abs sorted reversed int str bool list tuple dict set frozenset
    isinstance ord repr any all divmod getattr hasattr setattr map iter next super property staticmethod classmethod
    ValueError TypeError KeyError IndexError LookupError ZeroDivisionError""".split())
METHODS = set("__init__ __eq__ __repr__ __str__ __len__ __enter__ __exit__ __call__ __iter__".split())
WORDS = ("type typing typing_extensions enum Enum IntEnum StrEnum Flag IntFlag Generic Protocol ABC ABCMeta "
         "namedtuple NamedTuple TypedDict TYPE_CHECKING abstractmethod").split()
NAMES = set("register mro elements open input law version_info with_traceback add_note".split())


def tree_of(path):
    return ast.parse(path.read_text(encoding="utf-8"))


def nodes_of(path, *kinds):
    return [node for node in ast.walk(tree_of(path)) if isinstance(node, kinds)]


def bound_names(path):
    for node in ast.walk(tree_of(path)):
        if isinstance(node, ast.Name):
            yield node.id, isinstance(node.ctx, ast.Store)
        elif isinstance(node, (ast.FunctionDef, ast.ClassDef)):
            yield node.name, True
        elif isinstance(node, ast.arg):
            yield node.arg, True
        elif isinstance(node, ast.Attribute):
            yield node.attr, False


class FormTest(unittest.TestCase):
    def test_files(self):
        self.assertIn(PACKAGE / "__init__.py", FILES)
        for path in FILES:
            self.assertEqual(path.suffix, ".py")
            self.assertRegex(path.stem, r"\A(__init__|__main__|[a-z][a-z0-9_]*)\Z")
            self.assertNotIn(path.stem, sys.stdlib_module_names)
            self.assertFalse(hasattr(builtins, path.stem) and not path.stem.startswith("__"))

    def test_characters_and_sizes(self):
        for path in FILES:
            text = path.read_text(encoding="utf-8")
            self.assertRegex(text, r"\A[ -~\n]*\Z")
            self.assertLessEqual(len(text.splitlines()), 399)
            for line in text.splitlines():
                self.assertLessEqual(len(line), 120)
            for node in nodes_of(path, ast.FunctionDef):
                self.assertLessEqual(node.end_lineno - node.lineno + 1, 40, node.name)

    def test_imports(self):
        for path in FILES:
            self.assertEqual(nodes_of(path, ast.Import), [])
            tree = tree_of(path)
            for node in nodes_of(path, ast.ImportFrom):
                self.assertIn(node.lineno, [row.lineno for row in tree.body])
                self.assertEqual(node.level, 0)
                names = {alias.name for alias in node.names}
                if node.module in LIBRARY:
                    self.assertLessEqual(names, LIBRARY[node.module])
                else:
                    package, _, module = node.module.partition(".")
                    self.assertEqual(package, "keptqubits")
                    defined = {row.name for row in tree_of(PACKAGE / f"{module}.py").body if hasattr(row, "name")}
                    self.assertLessEqual(names, defined)

    def test_no_two_files_import_each_other(self):
        sources = {path.stem: {node.module.partition(".")[2] for node in nodes_of(path, ast.ImportFrom)}
                   for path in FILES}
        order = []
        while len(order) < len(sources):
            free = [name for name in sources if name not in order
                    and not [other for other in sources[name] if other in sources and other not in order]]
            self.assertTrue(free, "a ring of imports")
            order.extend(free)

    def test_module_level(self):
        for path in FILES:
            for row in tree_of(path).body:
                if isinstance(row, ast.Expr):
                    self.assertIsInstance(row.value, ast.Constant)
                else:
                    self.assertIsInstance(row, (ast.ImportFrom, ast.FunctionDef, ast.ClassDef, ast.Assign))

    def test_no_barred_syntax(self):
        barred = (ast.Global, ast.AsyncFunctionDef, ast.AsyncFor, ast.AsyncWith, ast.Await, ast.Div)
        for path in FILES:
            self.assertEqual(nodes_of(path, *barred), [])
            for node in nodes_of(path, ast.Call):
                if isinstance(node.func, ast.Name) and node.func.id in ("any", "all", "min", "max", "sum", "sorted"):
                    self.assertFalse([given for given in node.args if isinstance(given, ast.GeneratorExp)])
            for node in nodes_of(path, ast.Constant):
                self.assertNotIsInstance(node.value, (float, complex))
                if isinstance(node.value, str):
                    self.assertNotIn("%", node.value)
            for node in nodes_of(path, ast.Compare):
                for operator, side in zip(node.ops, node.comparators):
                    if isinstance(operator, (ast.Is, ast.IsNot)):
                        self.assertIsInstance(side, ast.Constant)
            for node in nodes_of(path, ast.BinOp):
                if isinstance(node.op, ast.Pow):
                    self.assertIsInstance(node.right, ast.Constant)

    def test_names(self):
        for path in FILES:
            for name, bound in bound_names(path):
                self.assertNotIn(name, NAMES)
                if name.startswith("__"):
                    self.assertIn(name, METHODS)
                elif hasattr(builtins, name):
                    self.assertFalse(bound, name)
                    self.assertIn(name, BUILTINS)

    def test_words(self):
        for path in FILES:
            with open(path, "rb") as source:
                for token in tokenize.tokenize(source.readline):
                    if token.type == tokenize.NAME:
                        self.assertNotIn(token.string, WORDS)
            self.assertIsNone(re.search("_wall|_WallAttr", path.read_text(encoding="utf-8")))


if __name__ == "__main__":
    unittest.main()
