"""The plainest rules for how the package is written: sizes, signs, words, names, imports."""

import ast
import builtins
import pathlib
import re
import unittest

PACKAGE = pathlib.Path(__file__).resolve().parent.parent / "aheadfold"
FILES = sorted(PACKAGE.glob("*.py"))
BARRED = re.compile(
    r"\b(type|typing|typing_extensions|enum|Enum|IntEnum|StrEnum|Flag|IntFlag|Generic|Protocol|ABC|ABCMeta"
    r"|namedtuple|NamedTuple|TypedDict|TYPE_CHECKING|abstractmethod)\b|dataclass|overload|contextmanager")
# Beside a class with its own equality these take lists, not generators.
TAKE_LISTS = ("any", "all", "min", "max", "sum", "sorted")
UNDERSCORED = ("__init__", "__eq__", "__repr__", "__len__")


def nodes(kind):
    """All (file name, node) of a kind."""
    return [(path.name, node) for path in FILES for node in ast.walk(ast.parse(path.read_text()))
            if isinstance(node, kind)]


class Written(unittest.TestCase):
    def test_only_plain_files(self):
        self.assertTrue(FILES)
        others = [path.name for path in PACKAGE.iterdir() if path not in FILES and path.name != "__pycache__"]
        self.assertEqual(others, [])

    def test_sizes_and_signs(self):
        for path in FILES:
            text = path.read_text()
            lines = text.splitlines()
            self.assertLessEqual(len(lines), 399, path.name)
            self.assertTrue(all(sign == "\n" or " " <= sign <= "~" for sign in text), path.name)
            self.assertTrue(all(len(line) <= 120 for line in lines), path.name)
            self.assertIsNone(BARRED.search(text), path.name)

    def test_functions_are_small(self):
        for name, node in nodes(ast.FunctionDef):
            self.assertLessEqual(node.end_lineno - node.lineno + 1, 40, (name, node.name))

    def test_names(self):
        for name, node in nodes((ast.Name, ast.Attribute, ast.FunctionDef, ast.ClassDef, ast.arg)):
            word = (getattr(node, "id", None) or getattr(node, "attr", None)
                    or getattr(node, "name", None) or getattr(node, "arg", None))
            self.assertTrue(word in UNDERSCORED or not word.startswith("_"), (name, word))

    def test_imports(self):
        self.assertEqual(nodes(ast.Import), [])
        for name, node in nodes(ast.ImportFrom):
            self.assertTrue(node.level == 0 and node.module.startswith("aheadfold."), name)

    def test_no_name_is_both_a_method_and_an_attribute(self):
        methods = {part.name for name, node in nodes(ast.ClassDef) for part in node.body
                   if isinstance(part, ast.FunctionDef)}
        attributes = {node.attr for name, node in nodes(ast.Attribute) if isinstance(node.ctx, ast.Store)}
        self.assertEqual(methods & attributes, set())

    def test_no_name_hides_an_import_a_class_or_a_builtin(self):
        for path in FILES:
            tree = ast.parse(path.read_text())
            barred = set(dir(builtins)) | {node.name for node in tree.body if isinstance(node, ast.ClassDef)} | {
                part.name for node in tree.body if isinstance(node, ast.ImportFrom) for part in node.names}
            for node in ast.walk(tree):
                if isinstance(node, ast.arg):
                    self.assertNotIn(node.arg, barred, path.name)
                if isinstance(node, ast.Name) and isinstance(node.ctx, ast.Store):
                    self.assertNotIn(node.id, barred, path.name)

    def test_asking_methods_assign_nothing(self):
        for name, node in nodes(ast.FunctionDef):
            if node.name in UNDERSCORED[1:]:
                kinds = (ast.Assign, ast.AugAssign, ast.AnnAssign, ast.Delete)
                self.assertFalse(any(isinstance(part, kinds) for part in ast.walk(node)), (name, node.name))

    def test_no_generators_where_lists_are_due(self):
        for name, node in nodes(ast.Call):
            if isinstance(node.func, ast.Name) and node.func.id in TAKE_LISTS:
                self.assertFalse(any(isinstance(part, ast.GeneratorExp) for part in node.args), name)

    def test_plain_values_and_statements(self):
        for name, node in nodes(ast.Constant):
            self.assertFalse(isinstance(node.value, float), name)
            self.assertFalse(isinstance(node.value, str) and chr(37) in node.value, name)
        for kind in (ast.Div, ast.Global, ast.AsyncFunctionDef):
            self.assertEqual(nodes(kind), [])


if __name__ == "__main__":
    unittest.main()
