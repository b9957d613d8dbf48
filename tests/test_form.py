"""The form of the package's code: those rules of LANGUAGE.md that can be seen by simple means."""

import ast
import builtins
import pathlib
import re
import sys
import tokenize
import unittest

PACKAGE = pathlib.Path(__file__).resolve().parent.parent / "keptqubits"
FILES = sorted(path for path in PACKAGE.rglob("*") if "__pycache__" not in path.parts)

LIBRARY = {
    "math": {"gcd", "lcm", "isqrt", "comb", "perm", "factorial"},
    "heapq": {"heappush", "heappop", "heapify", "heapreplace", "heappushpop"},
    "itertools": {"product", "combinations", "permutations", "chain", "accumulate", "pairwise", "islice", "zip_longest"},
    "collections": {"defaultdict"},
}
BUILTINS = set("""len range enumerate zip min max sum abs sorted reversed int str bool list tuple dict set frozenset
    isinstance ord repr any all divmod getattr hasattr setattr map iter next super property staticmethod classmethod
    ValueError TypeError KeyError IndexError LookupError ZeroDivisionError""".split())
METHODS = set("__init__ __eq__ __repr__ __str__ __len__ __enter__ __exit__ __call__ __iter__".split())
BUILTIN_METHODS = set("""append clear copy count endswith extend find get index insert isalnum isalpha isdigit islower
    isspace isupper items join keys ljust lower lstrip partition pop remove replace reverse rfind rjust rpartition
    rsplit rstrip setdefault split splitlines startswith strip update upper values zfill bit_length translate
    add discard""".split())
LAZY = set("range zip enumerate reversed items keys values product combinations permutations chain map".split())
TAKERS = set("list tuple dict sorted sum any all enumerate zip bytes reversed len min max".split())
WORDS = ("type typing typing_extensions enum Enum IntEnum StrEnum Flag IntFlag Generic Protocol ABC ABCMeta "
         "namedtuple NamedTuple TypedDict TYPE_CHECKING abstractmethod").split()
NAMES = set("register mro elements open input law version_info with_traceback add_note".split())


def tree_of(path):
    return ast.parse(path.read_text(encoding="utf-8"))


def nodes_of(path, *kinds):
    return [node for node in ast.walk(tree_of(path)) if isinstance(node, kinds)]


def bound_names(path):
    for node in ast.walk(tree_of(path)):
        if isinstance(node, ast.Name):
            yield node.id, isinstance(node.ctx, ast.Store)
        elif isinstance(node, (ast.FunctionDef, ast.ClassDef)):
            yield node.name, True
        elif isinstance(node, ast.arg):
            yield node.arg, True
        elif isinstance(node, ast.Attribute):
            yield node.attr, False


def defined_names(path):
    """The functions, classes and values that a file defines at its top."""
    found = set()
    for row in tree_of(path).body:
        if isinstance(row, ast.Assign):
            found |= {target.id for target in row.targets}
        elif isinstance(row, (ast.FunctionDef, ast.ClassDef)):
            found.add(row.name)
    return found


class FormTest(unittest.TestCase):
    def test_files(self):
        self.assertIn(PACKAGE / "__init__.py", FILES)
        for path in FILES:
            self.assertEqual(path.suffix, ".py")
            self.assertRegex(path.stem, r"\A(__init__|__main__|[a-z][a-z0-9_]*)\Z")
            self.assertNotIn(path.stem, sys.stdlib_module_names)
            self.assertFalse(hasattr(builtins, path.stem) and not path.stem.startswith("__"))

    def test_characters_and_sizes(self):
        for path in FILES:
            text = path.read_text(encoding="utf-8")
            self.assertRegex(text, r"\A[ -~\n]*\Z")
            self.assertLessEqual(len(text.splitlines()), 399)
            for line in text.splitlines():
                self.assertLessEqual(len(line), 120)
            for node in nodes_of(path, ast.FunctionDef):
                self.assertLessEqual(node.end_lineno - node.lineno + 1, 40, node.name)

    def test_imports(self):
        for path in FILES:
            self.assertEqual(nodes_of(path, ast.Import), [])
            tree = tree_of(path)
            for node in nodes_of(path, ast.ImportFrom):
                self.assertIn(node.lineno, [row.lineno for row in tree.body])
                self.assertEqual(node.level, 0)
                names = {alias.name for alias in node.names}
                if node.module in LIBRARY:
                    self.assertLessEqual(names, LIBRARY[node.module])
                else:
                    package, _, module = node.module.partition(".")
                    self.assertEqual(package, "keptqubits")
                    self.assertLessEqual(names, defined_names(PACKAGE / f"{module}.py"))

    def test_no_two_files_import_each_other(self):
        sources = {path.stem: {node.module.partition(".")[2] for node in nodes_of(path, ast.ImportFrom)}
                   for path in FILES}
        order = []
        while len(order) < len(sources):
            free = [name for name in sources if name not in order
                    and not [other for other in sources[name] if other in sources and other not in order]]
            self.assertTrue(free, "a ring of imports")
            order.extend(free)

    def test_module_level(self):
        for path in FILES:
            for row in tree_of(path).body:
                if isinstance(row, ast.Expr):
                    self.assertIsInstance(row.value, ast.Constant)
                else:
                    self.assertIsInstance(row, (ast.ImportFrom, ast.FunctionDef, ast.ClassDef, ast.Assign))

    def test_no_barred_syntax(self):
        barred = (ast.Global, ast.AsyncFunctionDef, ast.AsyncFor, ast.AsyncWith, ast.Await, ast.Div)
        for path in FILES:
            self.assertEqual(nodes_of(path, *barred), [])
            for node in nodes_of(path, ast.Call):
                if isinstance(node.func, ast.Name) and node.func.id in ("any", "all", "min", "max", "sum", "sorted"):
                    self.assertFalse([given for given in node.args if isinstance(given, ast.GeneratorExp)])
            for node in nodes_of(path, ast.Constant):
                self.assertNotIsInstance(node.value, (float, complex))
                if isinstance(node.value, str):
                    self.assertNotIn("%", node.value)
            for node in nodes_of(path, ast.Compare):
                for operator, side in zip(node.ops, node.comparators):
                    if isinstance(operator, (ast.Is, ast.IsNot)):
                        self.assertIsInstance(side, ast.Constant)
            for node in nodes_of(path, ast.BinOp):
                if isinstance(node.op, ast.Pow):
                    self.assertIsInstance(node.right, ast.Constant)

    def test_imports_are_used(self):
        for path in FILES:
            used = {node.id for node in nodes_of(path, ast.Name)}
            for node in nodes_of(path, ast.ImportFrom):
                for alias in node.names:
                    self.assertIn(alias.name, used, path.name)

    def test_methods_that_are_called(self):
        own = {node.name for path in FILES for node in nodes_of(path, ast.FunctionDef)}
        for path in FILES:
            for node in nodes_of(path, ast.Call):
                if isinstance(node.func, ast.Attribute):
                    self.assertIn(node.func.attr, own | BUILTIN_METHODS)

    def test_ranges_and_views_are_iterated_at_once(self):
        for path in FILES:
            at_once = set()
            for node in nodes_of(path, ast.For, ast.comprehension):
                at_once.add(ast.dump(node.iter, include_attributes=True))
            for node in nodes_of(path, ast.Call):
                if isinstance(node.func, ast.Name) and node.func.id in TAKERS:
                    at_once |= {ast.dump(given, include_attributes=True) for given in node.args[:1]}
            for node in nodes_of(path, ast.Call):
                name = node.func.id if isinstance(node.func, ast.Name) else getattr(node.func, "attr", None)
                if name in LAZY:
                    self.assertIn(ast.dump(node, include_attributes=True), at_once, f"{path.name}:{node.lineno}")

    def test_sets_are_not_iterated(self):
        for path in FILES:
            loops = nodes_of(path, ast.For, ast.comprehension)
            for node in loops:
                self.assertNotIsInstance(node.iter, (ast.Set, ast.SetComp))
                if isinstance(node.iter, ast.Call) and isinstance(node.iter.func, ast.Name):
                    self.assertNotIn(node.iter.func.id, ("set", "frozenset"))

    def test_no_name_is_a_method_and_an_attribute(self):
        methods, attributes = set(), set()
        for path in FILES:
            for node in nodes_of(path, ast.ClassDef):
                methods |= {row.name for row in node.body if isinstance(row, ast.FunctionDef)}
            attributes |= {node.attr for node in nodes_of(path, ast.Attribute) if isinstance(node.ctx, ast.Store)}
        self.assertEqual(methods & attributes, set())
        for path in FILES:
            read = {node.attr for node in nodes_of(path, ast.Attribute)}
            self.assertLessEqual(read, methods | attributes | BUILTIN_METHODS, path.name)

    def test_no_local_name_is_that_of_an_import_or_a_class(self):
        for path in FILES:
            taken = {alias.asname or alias.name for node in nodes_of(path, ast.ImportFrom) for alias in node.names}
            taken |= {node.name for node in nodes_of(path, ast.ClassDef)}
            for function in nodes_of(path, ast.FunctionDef):
                local = {given.arg for given in function.args.args}
                local |= {node.id for node in ast.walk(function)
                          if isinstance(node, ast.Name) and isinstance(node.ctx, ast.Store)}
                self.assertEqual(local & taken, set(), f"{path.name}: {function.name}")

    def test_stars_in_calls(self):
        for path in FILES:
            for node in nodes_of(path, ast.Call):
                for given in node.args:
                    if isinstance(given, ast.Starred):
                        self.assertIsInstance(given.value, (ast.Name, ast.Attribute), f"{path.name}:{node.lineno}")

    def test_names(self):
        for path in FILES:
            for name, bound in bound_names(path):
                self.assertNotIn(name, NAMES)
                if name.startswith("__"):
                    self.assertIn(name, METHODS)
                elif hasattr(builtins, name):
                    self.assertFalse(bound, name)
                    self.assertIn(name, BUILTINS)

    def test_words(self):
        for path in FILES:
            with open(path, "rb") as source:
                for token in tokenize.tokenize(source.readline):
                    if token.type == tokenize.NAME:
                        self.assertNotIn(token.string, WORDS)
            self.assertIsNone(re.search("_wall|_WallAttr", path.read_text(encoding="utf-8")))


if __name__ == "__main__":
    unittest.main()
