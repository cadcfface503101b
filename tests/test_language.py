"""The form of the package's files: the rules of ../shared/LANGUAGE.md that a look at the text can tell."""

import ast
import builtins
import pathlib
import re
import unittest

PACKAGE = pathlib.Path(__file__).resolve().parent.parent / "surecall"

# L8, L12
BUILT_IN = set(
    "len range enumerate zip min max sum abs sorted reversed int str bool bytes list tuple dict set frozenset"
    " isinstance ord repr any all divmod Exception ValueError TypeError KeyError IndexError LookupError"
    " ZeroDivisionError ArithmeticError OverflowError RuntimeError NotImplementedError AttributeError"
    " StopIteration".split()
)
# L17
UNWRITTEN = re.compile(
    r"\b(type|typing|typing_extensions|enum|Enum|IntEnum|StrEnum|Flag|IntFlag|Generic|Protocol|ABC|ABCMeta"
    r"|namedtuple|NamedTuple|TypedDict|TYPE_CHECKING|abstractmethod)\b|dataclass|overload|contextmanager"
)
UNUSED = set("register mro elements open input version_info with_traceback add_note".split())
# L5
UNDERSCORED = {"__init__", "__eq__", "__repr__", "__str__", "__len__"}
# L6, L7
FORBIDDEN = (
    ast.With, ast.Match, ast.Global, ast.Nonlocal, ast.Yield, ast.YieldFrom, ast.Await, ast.AsyncFunctionDef,
    ast.AsyncFor, ast.AsyncWith, ast.GeneratorExp, ast.NamedExpr, ast.Div, ast.Import,
)
# L25
METHODS = set(
    "append clear copy count endswith extend find get index insert isalnum isalpha isdigit islower isspace"
    " isupper items join keys ljust lower lstrip partition pop remove replace reverse rfind rjust rpartition"
    " rsplit rstrip setdefault split splitlines startswith strip update upper values zfill bit_length"
    " sort add discard".split()
)


def files():
    return sorted(path for path in PACKAGE.iterdir() if path.name != "__pycache__")


def trees():
    return [(path.name, ast.parse(path.read_text())) for path in files()]


def bound_names(tree):
    """All names that a file binds, with those of parameters, and drawn ones."""
    found = set()
    for node in ast.walk(tree):
        if isinstance(node, ast.Name) and isinstance(node.ctx, ast.Store):
            found.add(node.id)
        elif isinstance(node, ast.arg):
            found.add(node.arg)
        elif isinstance(node, (ast.FunctionDef, ast.ClassDef)):
            found.add(node.name)
        elif isinstance(node, ast.ImportFrom):
            found.update(alias.asname or alias.name for alias in node.names)
    return found


class LanguageTest(unittest.TestCase):
    def test_files_and_signs(self):
        for path in files():
            self.assertRegex(path.name, r"^(__init__|[a-z][a-z0-9_]*)\.py$")
            text = path.read_text()
            self.assertEqual([sign for sign in text if not (sign == "\n" or " " <= sign <= "~")], [], path)
            self.assertIsNone(UNWRITTEN.search(text), path)

    def test_sizes(self):
        for path in files():
            rows = path.read_text().split("\n")
            self.assertLessEqual(len(rows), 401, path)
            self.assertLessEqual(max(len(row) for row in rows), 120, path)
            for node in ast.walk(ast.parse(path.read_text())):
                if isinstance(node, ast.FunctionDef):
                    self.assertLessEqual(node.end_lineno - node.lineno + 1, 40, (path, node.name))

    def test_nothing_else_than_the_small_part(self):
        for name, tree in trees():
            for node in ast.walk(tree):
                self.assertNotIsInstance(node, FORBIDDEN, name)
                if isinstance(node, (ast.FunctionDef, ast.ClassDef)):
                    self.assertEqual(node.decorator_list, [], (name, node.name))
                if isinstance(node, ast.Constant):
                    self.assertNotIsInstance(node.value, (float, complex), name)
                if isinstance(node, (ast.For, ast.While)):
                    self.assertEqual(node.orelse, [], (name, node.lineno))

    def test_imports(self):
        drawn = {}
        for name, tree in trees():
            rows = [node for node in ast.walk(tree) if isinstance(node, ast.ImportFrom)]
            for node in rows:
                self.assertTrue(node.level == 0 and node.module.startswith("surecall."), (name, node.lineno))
                self.assertIn(node, tree.body)
            drawn[name] = {node.module.removeprefix("surecall.") + ".py" for node in rows}
        for name in drawn:
            reached, left = set(), list(drawn[name])
            while left:
                one = left.pop()
                if one not in reached:
                    reached.add(one)
                    left += drawn[one]
            self.assertNotIn(name, reached)

    def test_names(self):
        for name, tree in trees():
            bound = bound_names(tree)
            self.assertEqual(bound & BUILT_IN, set(), name)
            self.assertEqual(bound & UNUSED, set(), name)
            self.assertEqual([word for word in bound if word.startswith("_") and word not in UNDERSCORED], [], name)
            read = {node.id for node in ast.walk(tree) if isinstance(node, ast.Name)}
            self.assertEqual(read - bound - BUILT_IN, set(), name)

    def test_locals_are_called_like_nothing_else(self):
        # L15
        for name, tree in trees():
            drawn = {alias.asname or alias.name for node in tree.body if isinstance(node, ast.ImportFrom) for alias in node.names}
            drawn |= {node.name for node in tree.body if isinstance(node, ast.ClassDef)}
            for top in tree.body:
                if isinstance(top, (ast.FunctionDef, ast.ClassDef)):
                    inner = {node.arg for node in ast.walk(top) if isinstance(node, ast.arg)}
                    inner |= {
                        node.id for node in ast.walk(top) if isinstance(node, ast.Name) and isinstance(node.ctx, ast.Store)
                    }
                    self.assertEqual(inner & (drawn | set(dir(builtins))), set(), (name, top.name))

    def test_methods_and_values(self):
        values = {
            node.attr for name, tree in trees() for node in ast.walk(tree)
            if isinstance(node, ast.Attribute) and isinstance(node.ctx, ast.Store)
        }
        for name, tree in trees():
            for node in ast.walk(tree):
                if isinstance(node, ast.Attribute):
                    self.assertIn(node.attr, METHODS | values, (name, node.lineno))


if __name__ == "__main__":
    unittest.main()
