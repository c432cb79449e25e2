"""Those rules of the language (L1 to L28) that can be held against the files one by one."""

import ast
import builtins
import pathlib
import re
import unittest

PACKAGE = pathlib.Path(__file__).resolve().parent.parent / "bellcopies"

# A test that runs examples may have left an answer under the name `_`.
BUILTINS = set(dir(builtins)) - {"_"}

ALLOWED_BUILTINS = set(
    "len range enumerate zip min max sum abs sorted reversed int str bool bytes list tuple dict set frozenset "
    "isinstance ord repr any all divmod pow getattr hasattr setattr iter next map Exception ValueError TypeError "
    "KeyError IndexError LookupError ZeroDivisionError ArithmeticError OverflowError RuntimeError "
    "NotImplementedError AttributeError StopIteration NotImplemented super property staticmethod classmethod".split()
)

METHODS = set(
    "append clear copy count endswith extend find get index insert isalnum isalpha isdigit islower isspace isupper "
    "items join keys ljust lower lstrip partition pop remove replace reverse rfind rjust rpartition rsplit rstrip "
    "setdefault split splitlines startswith strip update upper values zfill bit_length add discard sort format "
    "__init__".split()
)

LIBRARY = {
    "heapq": {"heappush", "heappop", "heapify", "heapreplace", "heappushpop"},
    "math": {"gcd", "lcm", "isqrt", "comb", "perm", "factorial"},
    "itertools": {
        "product", "combinations", "permutations", "chain", "accumulate", "pairwise", "islice", "zip_longest",
    },
    "collections": {"defaultdict"},
}

BARRED_NODES = (
    ast.Global, ast.AsyncFunctionDef, ast.AsyncFor, ast.AsyncWith, ast.Await, ast.Div, ast.MatMult, ast.Import,
    ast.YieldFrom, ast.TryStar, ast.AnnAssign,
)

BARRED_WORDS = re.compile(
    r"\b(typing|typing_extensions|enum|Enum|IntEnum|StrEnum|Flag|IntFlag|Generic|Protocol|ABC|ABCMeta|namedtuple|"
    r"NamedTuple|TypedDict|TYPE_CHECKING|abstractmethod|type|register|mro|elements|open|input|law|version_info|"
    r"with_traceback|add_note|compile|eval|exec|exit|globals|locals|vars|dir|id|help|license|os|gc|chr)\b"
)


def package_files():
    return sorted(PACKAGE.glob("*.py"))


def trees():
    return [(path, ast.parse(path.read_text(encoding="utf-8"))) for path in package_files()]


def without_docstrings(tree):
    """The code of a file without its docstrings and comments."""
    for node in ast.walk(tree):
        if isinstance(node, (ast.Module, ast.ClassDef, ast.FunctionDef)) and ast.get_docstring(node) is not None:
            node.body = node.body[1:] or [ast.Pass()]
    return ast.unparse(tree)


def bound_names(function):
    """The parameters and local names of a function, those of comprehensions and nested ones too."""
    names = set()
    for node in ast.walk(function):
        if isinstance(node, ast.arg):
            names.add(node.arg)
        if isinstance(node, ast.Name) and isinstance(node.ctx, ast.Store):
            names.add(node.id)
        if isinstance(node, ast.FunctionDef) and node is not function:
            names.add(node.name)
    return names


class Files(unittest.TestCase):
    def test_only_plain_files(self):
        for path in PACKAGE.iterdir():
            if path.name != "__pycache__":
                self.assertRegex(path.name, r"\A([a-z][a-z0-9_]*|__init__)\.py\Z")
                self.assertNotIn(path.stem, BUILTINS)

    def test_lines_and_characters(self):
        for path in package_files():
            text = path.read_text(encoding="utf-8")
            self.assertLessEqual(len(text.splitlines()), 399, path)
            self.assertTrue(all(len(line) <= 120 for line in text.splitlines()), path)
            self.assertTrue(all(char == "\n" or " " <= char <= "~" for char in text), path)

    def test_length_of_functions(self):
        for path, tree in trees():
            for node in ast.walk(tree):
                if isinstance(node, ast.FunctionDef):
                    self.assertLessEqual(node.end_lineno - node.lineno + 1, 40, (path, node.name))


class Names(unittest.TestCase):
    def test_words(self):
        for path, tree in trees():
            self.assertIsNone(BARRED_WORDS.search(without_docstrings(tree)), path)

    def test_builtins(self):
        for path, tree in trees():
            for node in ast.walk(tree):
                if isinstance(node, ast.Name) and node.id in BUILTINS:
                    self.assertIn(node.id, ALLOWED_BUILTINS, path)
                    self.assertIsInstance(node.ctx, ast.Load, path)

    def test_methods(self):
        for path, tree in trees():
            for node in ast.walk(tree):
                if isinstance(node, ast.Call) and isinstance(node.func, ast.Attribute):
                    self.assertIn(node.func.attr, METHODS, path)

    def test_one_binding_for_each_name(self):
        for path, tree in trees():
            names = []
            for node in tree.body:
                if isinstance(node, ast.ImportFrom):
                    names += [alias.name for alias in node.names]
                if isinstance(node, (ast.FunctionDef, ast.ClassDef)):
                    names.append(node.name)
                if isinstance(node, ast.Assign):
                    names += [target.id for target in node.targets]
            self.assertEqual(len(names), len(set(names)), path)
            self.assertFalse(set(names) & BUILTINS, path)

    def test_locals_hide_no_import_and_no_class(self):
        for path, tree in trees():
            taken = set(BUILTINS)
            for node in tree.body:
                if isinstance(node, ast.ImportFrom):
                    taken |= {alias.name for alias in node.names}
                if isinstance(node, ast.ClassDef):
                    taken.add(node.name)
            for node in ast.walk(tree):
                if isinstance(node, ast.FunctionDef):
                    self.assertFalse(bound_names(node) & taken, (path, node.name))


class Statements(unittest.TestCase):
    def test_module_level(self):
        for path, tree in trees():
            self.assertIsNotNone(ast.get_docstring(tree), path)
            for node in tree.body[1:]:
                self.assertIsInstance(node, (ast.ImportFrom, ast.FunctionDef, ast.ClassDef, ast.Assign), path)

    def test_nodes(self):
        for path, tree in trees():
            for node in ast.walk(tree):
                self.assertNotIsInstance(node, BARRED_NODES, path)
                if isinstance(node, ast.FunctionDef):
                    self.assertEqual(node.decorator_list, [], path)
                if isinstance(node, ast.Constant):
                    self.assertNotIsInstance(node.value, (float, complex), path)
                if isinstance(node, ast.Constant) and isinstance(node.value, str):
                    self.assertNotIn(chr(37), node.value, path)
                if isinstance(node, ast.Compare) and any(isinstance(op, (ast.Is, ast.IsNot)) for op in node.ops):
                    self.assertIn(ast.unparse(node.comparators[0]), ("None", "True", "False"), path)
                if isinstance(node, ast.BinOp) and isinstance(node.op, ast.Pow):
                    self.assertIsInstance(node.right, ast.Constant, path)

    def test_every_function_says_what_it_does(self):
        for path, tree in trees():
            for node in ast.walk(tree):
                if isinstance(node, (ast.FunctionDef, ast.ClassDef)) and node.name != "__init__":
                    self.assertIsNotNone(ast.get_docstring(node), (path, node.name))


class Imports(unittest.TestCase):
    def test_from_the_defining_file_or_the_library(self):
        defined = {}
        for path, tree in trees():
            defined[f"bellcopies.{path.stem}"] = {
                node.name for node in tree.body if isinstance(node, (ast.FunctionDef, ast.ClassDef))
            }
        for path, tree in trees():
            for node in ast.walk(tree):
                if isinstance(node, ast.ImportFrom):
                    source = defined.get(node.module, LIBRARY.get(node.module))
                    self.assertEqual(node.level, 0, path)
                    self.assertTrue({alias.name for alias in node.names} <= source, path)
                    self.assertTrue(all(alias.asname is None for alias in node.names), path)

    def test_every_import_is_used(self):
        for path, tree in trees():
            used = {node.id for node in ast.walk(tree) if isinstance(node, ast.Name)}
            for node in ast.walk(tree):
                if isinstance(node, ast.ImportFrom):
                    self.assertTrue({alias.name for alias in node.names} <= used, path)

    def test_no_circles(self):
        leads = {}
        for path, tree in trees():
            leads[path.stem] = {
                node.module.partition(".")[2] for node in ast.walk(tree)
                if isinstance(node, ast.ImportFrom) and node.module.startswith("bellcopies.")
            }
        while leads:
            free = [name for name in leads if not leads[name] & set(leads)]
            self.assertTrue(free, leads)
            for name in free:
                del leads[name]
