"""The rules of the language that plain reading of the package can check."""

import ast
import builtins
import re
import tokenize
import unittest
from pathlib import Path

PACKAGE = Path(__file__).resolve().parent.parent / "sightstone"

BUILTINS = set(
    "len range enumerate zip min max sum abs sorted reversed int str bool bytes list tuple dict set "
    "frozenset isinstance ord repr any all divmod Exception ValueError TypeError KeyError IndexError "
    "LookupError ZeroDivisionError ArithmeticError OverflowError RuntimeError NotImplementedError "
    "AttributeError StopIteration NotImplemented".split())

BARRED_WORDS = re.compile(
    r"\b(type|typing|typing_extensions|enum|Enum|IntEnum|StrEnum|Flag|IntFlag|Generic|Protocol|ABC|ABCMeta"
    r"|namedtuple|NamedTuple|TypedDict|TYPE_CHECKING|abstractmethod)\b|dataclass|overload|contextmanager")

BARRED_NODES = (
    ast.Global, ast.AsyncFunctionDef, ast.AsyncFor, ast.AsyncWith, ast.Await, ast.Import, ast.Div, ast.MatMult,
)


def package_files():
    return sorted(path for path in PACKAGE.iterdir() if path.name != "__pycache__")


def trees():
    return [(path.name, ast.parse(path.read_text())) for path in package_files()]


def bound_names(tree):
    """All names that a file binds anywhere, so that a read of another one must be a builtin."""
    names = set()
    for node in ast.walk(tree):
        if isinstance(node, (ast.FunctionDef, ast.ClassDef)):
            names.add(node.name)
        elif isinstance(node, ast.arg):
            names.add(node.arg)
        elif isinstance(node, ast.Name) and not isinstance(node.ctx, ast.Load):
            names.add(node.id)
        elif isinstance(node, ast.alias):
            names.add(node.asname or node.name)
        elif isinstance(node, ast.ExceptHandler) and node.name:
            names.add(node.name)
    return names


def local_names(tree):
    """All names that the functions of a file bind for themselves: parameters, variables, nested functions."""
    names = set()
    for function in [node for node in ast.walk(tree) if isinstance(node, ast.FunctionDef)]:
        for node in ast.walk(function):
            if isinstance(node, ast.arg):
                names.add(node.arg)
            elif isinstance(node, ast.Name) and not isinstance(node.ctx, ast.Load):
                names.add(node.id)
            elif isinstance(node, ast.FunctionDef) and node != function:
                names.add(node.name)
    return names


def methods_and_attributes():
    """The names of all methods of the package, and those of all attributes that it assigns."""
    methods, attributes = set(), set()
    for name, tree in trees():
        for node in ast.walk(tree):
            if isinstance(node, ast.ClassDef):
                methods |= {part.name for part in node.body if isinstance(part, ast.FunctionDef)}
            elif isinstance(node, ast.Attribute) and isinstance(node.ctx, ast.Store):
                attributes.add(node.attr)
    return methods, attributes


class Language(unittest.TestCase):
    def test_files_are_plain(self):
        self.assertIn("__init__.py", [path.name for path in package_files()])
        for path in package_files():
            self.assertRegex(path.name, r"^([a-z][a-z0-9_]*|__init__|__main__)\.py$")

    def test_characters_and_sizes(self):
        for path in package_files():
            text = path.read_bytes().decode("ascii")
            self.assertRegex(text, r"\A[ -~\n]*\Z", path.name)
            lines = text.split("\n")
            self.assertLessEqual(len(lines), 400, path.name)
            self.assertLessEqual(max(len(line) for line in lines), 120, path.name)

    def test_functions_are_short(self):
        for name, tree in trees():
            for node in ast.walk(tree):
                if isinstance(node, ast.FunctionDef):
                    self.assertLessEqual(node.end_lineno - node.lineno + 1, 40, (name, node.name))

    def test_barred_words(self):
        for path in package_files():
            self.assertIsNone(BARRED_WORDS.search(path.read_text()), path.name)

    def test_barred_nodes_and_values(self):
        for name, tree in trees():
            for node in ast.walk(tree):
                at = (name, getattr(node, "lineno", 0))
                self.assertNotIsInstance(node, BARRED_NODES, at)
                if isinstance(node, ast.Constant):
                    self.assertNotIsInstance(node.value, (float, complex), at)
                    self.assertFalse(isinstance(node.value, str) and "%" in node.value, at)

    def test_imports(self):
        for name, tree in trees():
            for node in ast.walk(tree):
                if isinstance(node, ast.ImportFrom):
                    self.assertIn(node, tree.body)
                    self.assertEqual(node.level, 0)
                    self.assertRegex(node.module, r"^sightstone\.[a-z][a-z0-9_]*$", name)
                    defined = ast.parse((PACKAGE / (node.module.split(".")[1] + ".py")).read_text()).body
                    here = [part.name for part in defined if hasattr(part, "name")]
                    here += [goal.id for part in defined if isinstance(part, ast.Assign) for goal in part.targets]
                    for alias in node.names:
                        self.assertIn(alias.name, here, name)

    def test_names(self):
        for name, tree in trees():
            bound = bound_names(tree)
            self.assertEqual([word for word in bound if word in BUILTINS], [], name)
            for word in bound:
                self.assertRegex(word, r"^([A-Za-z][A-Za-z0-9_]*|__[a-z]+__)$", name)
            for node in ast.walk(tree):
                if isinstance(node, ast.Name) and isinstance(node.ctx, ast.Load):
                    self.assertIn(node.id, bound | BUILTINS, (name, node.lineno))

    def test_local_names_mean_nothing_else(self):
        for name, tree in trees():
            taken = set(dir(builtins))
            for node in ast.walk(tree):
                if isinstance(node, ast.ClassDef):
                    taken.add(node.name)
                elif isinstance(node, ast.alias):
                    taken.add(node.asname or node.name)
            self.assertEqual(sorted(local_names(tree) & taken), [], name)

    def test_no_name_is_both_a_method_and_an_attribute(self):
        methods, attributes = methods_and_attributes()
        self.assertEqual(sorted(methods & attributes), [])
        for value in ("", b"", 0, [], {}, set(), ()):
            self.assertEqual(sorted(attributes & set(dir(value))), [])

    def test_module_level(self):
        for name, tree in trees():
            for node in tree.body:
                plain = (ast.ImportFrom, ast.FunctionDef, ast.ClassDef, ast.Assign)
                if not isinstance(node, plain):
                    self.assertIsInstance(node, ast.Expr, name)
                    self.assertIsInstance(node.value, ast.Constant, name)

    def test_escapes(self):
        for path in package_files():
            with tokenize.open(path) as lines:
                for token in tokenize.generate_tokens(lines.readline):
                    if token.type == tokenize.STRING:
                        self.assertNotRegex(token.string.replace("\\\\", ""), r"\\[^nt'\"]", path.name)


if __name__ == "__main__":
    unittest.main()
