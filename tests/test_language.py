"""Rules of the language subset that a look at the package's files can check."""

import ast
import pathlib
import re
import unittest

from leasehall import errors

PACKAGE = pathlib.Path(__file__).resolve().parent.parent / "leasehall"
FILES = sorted(path for path in PACKAGE.rglob("*") if "__pycache__" not in path.parts)

STATEMENTS = (
    ast.Assign,
    ast.AugAssign,
    ast.If,
    ast.While,
    ast.For,
    ast.Return,
    ast.Break,
    ast.Continue,
    ast.Raise,
    ast.Try,
    ast.Expr,
    ast.FunctionDef,
    ast.ClassDef,
    ast.ImportFrom,
)
# What may be imported from the library, and is only called.
LIBRARY = {"math": {"gcd"}}
BUILTINS = {
    "len", "range", "enumerate", "zip", "min", "max", "sum", "abs", "sorted", "reversed",
    "int", "str", "bool", "list", "tuple", "dict", "set", "isinstance", "ord", "any", "all",
    "ValueError",
}
METHODS = {
    "append", "clear", "copy", "count", "endswith", "extend", "find", "get", "index", "insert",
    "items", "join", "keys", "partition", "pop", "remove", "replace", "reverse", "setdefault",
    "split", "startswith", "update", "values",
}
CHANGES = {"append", "clear", "extend", "insert", "pop", "remove", "reverse", "setdefault", "update"}
BARRED = {
    "attrgetter", "breakpoint", "builtins", "compile", "copyright", "credits", "delattr", "dir",
    "eval", "exec", "exit", "gc", "getattr", "globals", "hasattr", "help", "id", "importlib",
    "license", "locals", "methodcaller", "os", "quit", "setattr", "super", "sys", "type", "vars",
}
BUILTIN_ATTRIBUTES = set().union(*[dir(kind) for kind in (str, int, list, dict, set, bytes)])
NEVER = {"register", "mro", "elements", "open", "input", "law", "version_info", "add_note"}
WORDS = [
    "type", "typing", "enum", "Enum", "Flag", "Generic", "Protocol", "ABC", "namedtuple",
    "NamedTuple", "TypedDict", "abstractmethod",
]


def trees():
    return [(path.name, ast.parse(path.read_text())) for path in FILES]


def docstring_of(node):
    body = getattr(node, "body", None)
    if isinstance(body, list) and body and isinstance(body[0], ast.Expr):
        if isinstance(body[0].value, ast.Constant):
            return body[0].value
    return None


class Language(unittest.TestCase):
    def test_files(self):
        self.assertIn(PACKAGE / "__init__.py", FILES)
        for path in FILES:
            self.assertTrue(re.fullmatch(r"(__init__|[a-z][a-z0-9_]*)\.py", path.name), path)

    def test_characters_and_sizes(self):
        for path in FILES:
            text = path.read_text(encoding="utf-8")
            self.assertTrue(all(c == "\n" or " " <= c <= "~" for c in text), path)
            lines = text.splitlines()
            self.assertLessEqual(len(lines), 399, path)
            self.assertLessEqual(max(len(line) for line in lines), 120, path)
            self.assertNotIn("_wall", text)

    def test_functions(self):
        for name, tree in trees():
            for node in ast.walk(tree):
                if isinstance(node, ast.FunctionDef):
                    self.assertLessEqual(node.end_lineno - node.lineno + 1, 40, (name, node.name))
                    self.assertEqual(node.decorator_list, [], (name, node.name))

    def test_module_level(self):
        for name, tree in trees():
            for node in tree.body:
                if isinstance(node, ast.Expr):
                    self.assertIs(node.value, docstring_of(tree), name)
                    continue
                kinds = (ast.ImportFrom, ast.FunctionDef, ast.ClassDef, ast.Assign)
                self.assertIsInstance(node, kinds, name)

    def test_statements(self):
        for name, tree in trees():
            for node in ast.walk(tree):
                if isinstance(node, ast.stmt):
                    self.assertIsInstance(node, STATEMENTS, (name, node.lineno))
                barred = (ast.Div, ast.NamedExpr, ast.Set, ast.SetComp, ast.Starred, ast.Yield)
                self.assertNotIsInstance(node, barred, name)

    def test_imports(self):
        stems = {path.stem for path in FILES}
        links = {}
        for name, tree in trees():
            for node in ast.walk(tree):
                if isinstance(node, ast.ImportFrom):
                    self.assertEqual(node.level, 0, name)
                    if node.module in LIBRARY:
                        self.assertLessEqual({alias.name for alias in node.names}, LIBRARY[node.module])
                        continue
                    package, _, stem = node.module.partition(".")
                    self.assertEqual(package, "leasehall", name)
                    self.assertIn(stem, stems, name)
                    self.assertTrue(all(alias.asname is None for alias in node.names), name)
                    links.setdefault(name[:-3], set()).add(stem)
        while links:
            ends = [stem for stem in links if not links[stem] & set(links)]
            self.assertTrue(ends, "files import from each other: " + ", ".join(sorted(links)))
            for stem in ends:
                del links[stem]

    def test_names(self):
        barred = set(dir(__builtins__)) if not isinstance(__builtins__, dict) else set(__builtins__)
        for name, tree in trees():
            taken = set()
            for node in tree.body:
                if isinstance(node, ast.ImportFrom):
                    taken.update(alias.name for alias in node.names)
                elif isinstance(node, (ast.ClassDef, ast.FunctionDef)):
                    taken.add(node.name)
            for node in ast.walk(tree):
                if isinstance(node, ast.arg):
                    bound = node.arg
                elif isinstance(node, ast.Name) and isinstance(node.ctx, ast.Store):
                    bound = node.id
                else:
                    continue
                self.assertNotIn(bound, barred | NEVER | taken, name)
                self.assertTrue(re.fullmatch(r"_|_?[A-Za-z][A-Za-z0-9_]*", bound), (name, bound))

    def test_names_that_are_barred(self):
        for name, tree in trees():
            for node in ast.walk(tree):
                if isinstance(node, ast.FunctionDef):
                    self.assertNotIn(node.name, BARRED | NEVER, name)
                if isinstance(node, (ast.arg, ast.Name)):
                    bound = node.arg if isinstance(node, ast.arg) else node.id
                    self.assertNotIn(bound, BARRED | NEVER, name)

    def test_methods_and_attributes(self):
        for name, tree in trees():
            for node in ast.walk(tree):
                if not isinstance(node, ast.ClassDef):
                    continue
                methods = [part.name for part in node.body if isinstance(part, ast.FunctionDef)]
                self.assertEqual(len(methods), len(set(methods)), (name, node.name))
                taken = (BUILTIN_ATTRIBUTES - METHODS) | {"sort", "encode", "decode", "format"}
                for method in methods:
                    if not method.startswith("__"):
                        self.assertNotIn(method, taken - {"add", "discard"}, (name, node.name))
                for part in ast.walk(node):
                    if isinstance(part, ast.Attribute) and isinstance(part.ctx, ast.Store):
                        self.assertNotIn(part.attr, methods, (name, node.name))
                        self.assertNotIn(part.attr, BUILTIN_ATTRIBUTES - {"index"}, name)

    def test_handlers_name_own_errors(self):
        for name, tree in trees():
            for node in ast.walk(tree):
                if isinstance(node, ast.ExceptHandler):
                    self.assertIsInstance(node.type, ast.Name, name)
                    self.assertTrue(hasattr(errors, node.type.id), (name, node.lineno))

    def test_is_stands_beside_none(self):
        for name, tree in trees():
            for node in ast.walk(tree):
                if isinstance(node, ast.Compare) and isinstance(node.ops[0], (ast.Is, ast.IsNot)):
                    self.assertIsInstance(node.comparators[0], ast.Constant, (name, node.lineno))

    def test_what_a_loop_iterates_over_is_not_modified_in_it(self):
        for name, tree in trees():
            for node in ast.walk(tree):
                if not isinstance(node, ast.For):
                    continue
                over = {ast.unparse(part) for part in ast.walk(node.iter) if not self.is_copy(node.iter)}
                for part in ast.walk(node):
                    if isinstance(part, ast.Call) and isinstance(part.func, ast.Attribute):
                        if part.func.attr in CHANGES:
                            self.assertNotIn(ast.unparse(part.func.value), over, (name, part.lineno))
                    if isinstance(part, ast.Subscript) and isinstance(part.ctx, ast.Store):
                        self.assertNotIn(ast.unparse(part.value), over, (name, part.lineno))

    def is_copy(self, node):
        return isinstance(node, ast.Call) and ast.unparse(node.func) in ("list", "sorted", "range")

    def test_builtins_and_methods(self):
        own = set()
        parameters = set()
        for _, tree in trees():
            for node in ast.walk(tree):
                if isinstance(node, (ast.FunctionDef, ast.ClassDef)):
                    own.add(node.name)
                if isinstance(node, ast.arg):
                    parameters.add(node.arg)
        for name, tree in trees():
            for node in ast.walk(tree):
                if not isinstance(node, ast.Call):
                    continue
                if isinstance(node.func, ast.Name):
                    names = BUILTINS | LIBRARY["math"] | own | parameters
                    self.assertIn(node.func.id, names, (name, node.lineno))
                else:
                    self.assertIn(node.func.attr, METHODS | own, (name, node.lineno))

    def test_constants(self):
        for name, tree in trees():
            docstrings = {id(docstring_of(node)) for node in ast.walk(tree)}
            for node in ast.walk(tree):
                if not isinstance(node, ast.Constant):
                    continue
                self.assertNotIsInstance(node.value, (float, complex, bytes), name)
                if isinstance(node.value, str):
                    self.assertNotIn("%", node.value, name)
                    if id(node) not in docstrings:
                        for word in WORDS:
                            self.assertNotRegex(node.value, r"\b" + word + r"\b", name)


if __name__ == "__main__":
    unittest.main()
