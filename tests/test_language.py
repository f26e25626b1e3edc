"""The rules of the language that can be checked by reading the files of the package."""

import ast
import builtins
import re
import unittest
import warnings
from pathlib import Path

PACKAGE = Path(__file__).resolve().parent.parent / "twiceslope"
FILES = sorted(path for path in PACKAGE.rglob("*") if "__pycache__" not in path.parts)
LIBRARY = {
    "math": ("gcd", "lcm", "isqrt", "comb", "perm", "factorial"),
    "itertools": (
        "product", "combinations", "permutations", "chain", "accumulate", "pairwise", "islice", "zip_longest",
    ),
    "heapq": ("heappush", "heappop", "heapify", "heapreplace", "heappushpop"),
    "collections": ("defaultdict", "deque"),
}
BUILTINS = set(
    "len range enumerate zip min max sum abs sorted reversed int str bool bytes list tuple dict set frozenset isinstance "
    "ord repr any all divmod pow Exception ValueError TypeError KeyError IndexError LookupError ZeroDivisionError "
    "ArithmeticError OverflowError RuntimeError NotImplementedError AttributeError StopIteration".split()
)
METHODS = set(
    "append clear copy count endswith extend find get index insert items join keys pop remove replace reverse "
    "setdefault split startswith strip update values bit_length __init__".split()
)
BARRED_WORDS = re.compile(
    r"\b(type|typing|typing_extensions|enum|Enum|IntEnum|StrEnum|Flag|IntFlag|Generic|Protocol|ABC|ABCMeta|namedtuple|"
    r"NamedTuple|TypedDict|TYPE_CHECKING|abstractmethod|_wall\w*)\b|dataclass|overload|contextmanager"
)
BARRED_NODES = (ast.AsyncFunctionDef, ast.Await, ast.Div, ast.TryStar, ast.MatMult)


def trees():
    return [(path, ast.parse(path.read_text())) for path in FILES]


def nodes(kinds):
    return [(path, node) for path, tree in trees() for node in ast.walk(tree) if isinstance(node, kinds)]


def bound_names(tree):
    """The names that a file binds at its module level, with repeats."""
    found = []
    for node in tree.body:
        if isinstance(node, ast.ImportFrom):
            found.extend(alias.asname or alias.name for alias in node.names)
        elif isinstance(node, (ast.FunctionDef, ast.ClassDef)):
            found.append(node.name)
        elif isinstance(node, ast.Assign):
            found.extend(target.id for target in node.targets)
    return found


class LanguageTest(unittest.TestCase):
    def test_files(self):
        self.assertIn(PACKAGE / "__init__.py", FILES)
        for path in FILES:
            self.assertEqual(path.suffix, ".py")
            self.assertTrue(path.stem.replace("_", "a").isalnum() and path.stem == path.stem.lower())
            self.assertFalse(path.stem.startswith(("test", "law_")))
            self.assertTrue(path.stem == "__init__" or not hasattr(builtins, path.stem))

    def test_characters_and_sizes(self):
        for path in FILES:
            text = path.read_bytes().decode("ascii")
            self.assertTrue(all(sign == "\n" or " " <= sign <= "~" for sign in text), path)
            lines = text.split("\n")
            self.assertLess(len(lines), 400, path)
            self.assertLessEqual(max(len(line) for line in lines), 120, path)
        for path, node in nodes(ast.FunctionDef):
            self.assertLessEqual(node.end_lineno - node.lineno + 1, 40, (path, node.name))

    def test_no_warning(self):
        with warnings.catch_warnings():
            warnings.simplefilter("error")
            for path in FILES:
                compile(path.read_text(), str(path), "exec")

    def test_imports(self):
        for path, node in nodes(ast.Import):
            self.fail((path, node.lineno))
        for path, node in nodes(ast.ImportFrom):
            names = [alias.name for alias in node.names]
            self.assertEqual([alias.asname for alias in node.names], [None] * len(names))
            self.assertEqual(node.level, 0)
            if node.module in LIBRARY:
                self.assertLessEqual(set(names), set(LIBRARY[node.module]))
            else:
                source = PACKAGE / (node.module.removeprefix("twiceslope.") + ".py")
                defined = [
                    name.name for name in ast.parse(source.read_text()).body
                    if isinstance(name, (ast.FunctionDef, ast.ClassDef))
                ] + [name for name in bound_names(ast.parse(source.read_text())) if name.isupper()]
                self.assertLessEqual(set(names), set(defined), (path, node.lineno))

    def test_all_imports_are_used(self):
        for path, tree in trees():
            used = {node.id for node in ast.walk(tree) if isinstance(node, ast.Name)}
            for node in tree.body:
                if isinstance(node, ast.ImportFrom):
                    self.assertLessEqual({alias.name for alias in node.names}, used, path)

    def test_no_circle_of_imports(self):
        needs = {path.stem: set() for path in FILES}
        for path, node in nodes(ast.ImportFrom):
            if node.module.startswith("twiceslope."):
                needs[path.stem].add(node.module.removeprefix("twiceslope."))
        while needs:
            free = [name for name in needs if not needs[name] & set(needs)]
            self.assertTrue(free, needs)
            needs = {name: needs[name] for name in needs if name not in free}

    def test_module_level(self):
        for path, tree in trees():
            for node in tree.body[1:]:
                self.assertIsInstance(node, (ast.ImportFrom, ast.FunctionDef, ast.ClassDef, ast.Assign), path)
            names = bound_names(tree)
            self.assertEqual(len(names), len(set(names)), path)
            for node in ast.walk(tree):
                if isinstance(node, (ast.FunctionDef, ast.ClassDef)):
                    self.assertTrue(ast.get_docstring(node) or node.name == "__init__", (path, node.name))
                if isinstance(node, ast.FunctionDef):
                    self.assertEqual(node.decorator_list, [])

    def test_names(self):
        imported = {
            path: {alias.name for node in tree.body if isinstance(node, ast.ImportFrom) for alias in node.names}
            for path, tree in trees()
        }
        for path, tree in trees():
            stored = [n.id for n in ast.walk(tree) if isinstance(n, ast.Name) and not isinstance(n.ctx, ast.Load)]
            stored += [n.arg for n in ast.walk(tree) if isinstance(n, ast.arg)]
            stored += [n.name for n in ast.walk(tree) if isinstance(n, (ast.FunctionDef, ast.ClassDef))]
            for name in [name for name in stored if name != "__init__"]:
                self.assertFalse(hasattr(builtins, name), (path, name))
                self.assertNotIn(name, imported[path])
                self.assertFalse(name.startswith("__"), (path, name))

    def test_builtins(self):
        for path, tree in trees():
            for node in ast.walk(tree):
                if isinstance(node, ast.Name) and hasattr(builtins, node.id):
                    self.assertIn(node.id, BUILTINS, path)

    def test_methods(self):
        for path, node in nodes(ast.Call):
            if isinstance(node.func, ast.Attribute):
                self.assertIn(node.func.attr, METHODS, (path, node.lineno))

    def test_barred(self):
        for path, node in nodes(BARRED_NODES):
            self.fail((path, node))
        for path, node in nodes(ast.Constant):
            self.assertNotIsInstance(node.value, (float, complex), path)
        for path, node in nodes(ast.BinOp):
            if isinstance(node.op, ast.Pow):
                self.assertIsInstance(node.right, ast.Constant, (path, node.lineno))
        for path in FILES:
            self.assertIsNone(BARRED_WORDS.search(path.read_text()), path)

    def test_raises(self):
        for path, node in nodes(ast.Raise):
            self.assertIsInstance(node.exc, ast.Call, (path, node.lineno))
            self.assertIsInstance(node.exc.func, ast.Name, (path, node.lineno))


if __name__ == "__main__":
    unittest.main()
