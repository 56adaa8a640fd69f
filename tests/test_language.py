"""Rules of the language subset that a look at the package's files can check."""

import ast
import pathlib
import re
import unittest

PACKAGE = pathlib.Path(__file__).resolve().parent.parent / "leasehall"
FILES = sorted(path for path in PACKAGE.rglob("*") if "__pycache__" not in path.parts)

STATEMENTS = (
    ast.Assign,
    ast.AugAssign,
    ast.If,
    ast.While,
    ast.For,
    ast.Return,
    ast.Break,
    ast.Continue,
    ast.Raise,
    ast.Expr,
    ast.FunctionDef,
    ast.ClassDef,
    ast.ImportFrom,
)
BUILTINS = {
    "len", "range", "enumerate", "zip", "min", "max", "sum", "abs", "sorted", "reversed",
    "int", "str", "bool", "list", "tuple", "dict", "set", "isinstance", "ord", "any", "all",
    "ValueError",
}
METHODS = {
    "append", "clear", "copy", "count", "endswith", "extend", "find", "get", "index", "insert",
    "items", "join", "keys", "pop", "remove", "replace", "reverse", "setdefault", "split",
    "startswith", "update", "values",
}
NEVER = {"register", "mro", "elements", "open", "input", "law", "version_info", "add_note"}
WORDS = [
    "type", "typing", "enum", "Enum", "Flag", "Generic", "Protocol", "ABC", "namedtuple",
    "NamedTuple", "TypedDict", "abstractmethod",
]


def trees():
    return [(path.name, ast.parse(path.read_text())) for path in FILES]


def docstring_of(node):
    body = getattr(node, "body", None)
    if isinstance(body, list) and body and isinstance(body[0], ast.Expr):
        if isinstance(body[0].value, ast.Constant):
            return body[0].value
    return None


class Language(unittest.TestCase):
    def test_files(self):
        self.assertIn(PACKAGE / "__init__.py", FILES)
        for path in FILES:
            self.assertTrue(re.fullmatch(r"(__init__|[a-z][a-z0-9_]*)\.py", path.name), path)

    def test_characters_and_sizes(self):
        for path in FILES:
            text = path.read_text(encoding="utf-8")
            self.assertTrue(all(c == "\n" or " " <= c <= "~" for c in text), path)
            lines = text.splitlines()
            self.assertLessEqual(len(lines), 399, path)
            self.assertLessEqual(max(len(line) for line in lines), 120, path)
            self.assertNotIn("_wall", text)

    def test_functions(self):
        for name, tree in trees():
            for node in ast.walk(tree):
                if isinstance(node, ast.FunctionDef):
                    self.assertLessEqual(node.end_lineno - node.lineno + 1, 40, (name, node.name))
                    self.assertEqual(node.decorator_list, [], (name, node.name))

    def test_module_level(self):
        for name, tree in trees():
            for node in tree.body:
                if isinstance(node, ast.Expr):
                    self.assertIs(node.value, docstring_of(tree), name)
                    continue
                kinds = (ast.ImportFrom, ast.FunctionDef, ast.ClassDef, ast.Assign)
                self.assertIsInstance(node, kinds, name)

    def test_statements(self):
        for name, tree in trees():
            for node in ast.walk(tree):
                if isinstance(node, ast.stmt):
                    self.assertIsInstance(node, STATEMENTS, (name, node.lineno))
                self.assertNotIsInstance(node, (ast.Div, ast.NamedExpr, ast.Set), name)

    def test_imports(self):
        stems = {path.stem for path in FILES}
        links = {}
        for name, tree in trees():
            for node in ast.walk(tree):
                if isinstance(node, ast.ImportFrom):
                    self.assertEqual(node.level, 0, name)
                    package, _, stem = node.module.partition(".")
                    self.assertEqual(package, "leasehall", name)
                    self.assertIn(stem, stems, name)
                    self.assertTrue(all(alias.asname is None for alias in node.names), name)
                    links.setdefault(name[:-3], set()).add(stem)
        while links:
            ends = [stem for stem in links if not links[stem] & set(links)]
            self.assertTrue(ends, "files import from each other: " + ", ".join(sorted(links)))
            for stem in ends:
                del links[stem]

    def test_names(self):
        barred = set(dir(__builtins__)) if not isinstance(__builtins__, dict) else set(__builtins__)
        for name, tree in trees():
            taken = set()
            for node in tree.body:
                if isinstance(node, ast.ImportFrom):
                    taken.update(alias.name for alias in node.names)
                elif isinstance(node, (ast.ClassDef, ast.FunctionDef)):
                    taken.add(node.name)
            for node in ast.walk(tree):
                if isinstance(node, ast.arg):
                    bound = node.arg
                elif isinstance(node, ast.Name) and isinstance(node.ctx, ast.Store):
                    bound = node.id
                else:
                    continue
                self.assertNotIn(bound, barred | NEVER | taken, name)
                self.assertTrue(re.fullmatch(r"_|_?[A-Za-z][A-Za-z0-9_]*", bound), (name, bound))

    def test_builtins_and_methods(self):
        own = set()
        for _, tree in trees():
            for node in ast.walk(tree):
                if isinstance(node, (ast.FunctionDef, ast.ClassDef)):
                    own.add(node.name)
        for name, tree in trees():
            for node in ast.walk(tree):
                if not isinstance(node, ast.Call):
                    continue
                if isinstance(node.func, ast.Name):
                    self.assertIn(node.func.id, BUILTINS | own, (name, node.lineno))
                else:
                    self.assertIn(node.func.attr, METHODS | own, (name, node.lineno))

    def test_constants(self):
        for name, tree in trees():
            docstrings = {id(docstring_of(node)) for node in ast.walk(tree)}
            for node in ast.walk(tree):
                if not isinstance(node, ast.Constant):
                    continue
                self.assertNotIsInstance(node.value, (float, complex, bytes), name)
                if isinstance(node.value, str):
                    self.assertNotIn("%", node.value, name)
                    if id(node) not in docstrings:
                        for word in WORDS:
                            self.assertNotRegex(node.value, r"\b" + word + r"\b", name)


if __name__ == "__main__":
    unittest.main()
