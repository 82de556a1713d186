"""The rules of the language that can be seen by a short look at the files of the package."""

import ast
import builtins
import pathlib
import re
import tokenize
import unittest

TOP = pathlib.Path(__file__).resolve().parent.parent / "soleseat"
FILES = sorted(TOP.rglob("*.py"))
# What the rules let be called, as far as the package needs it: a later file may add to these.
CALLED = {"len", "range", "enumerate", "zip", "min", "max", "sum", "abs", "sorted", "reversed", "int", "str", "bool",
          "list", "tuple", "dict", "set", "isinstance", "ord", "repr", "any", "all", "divmod", "super"}
METHODS = {"append", "clear", "copy", "count", "endswith", "extend", "find", "get", "index", "insert", "isdigit",
           "items", "join", "keys", "lower", "partition", "pop", "remove", "replace", "reverse", "rstrip", "setdefault",
           "split", "startswith", "strip", "update", "values", "removeprefix", "removesuffix", "add", "discard",
           "bit_length"}
ERRORS = {"ValueError", "LookupError", "ArithmeticError"}
DOUBLE = {"__init__", "__eq__", "__len__", "__str__", "__repr__"}
BARRED = {"type", "typing", "enum", "Enum", "Flag", "Generic", "Protocol", "ABC", "namedtuple", "NamedTuple"}
NODES = (ast.GeneratorExp, ast.AsyncFunctionDef, ast.AsyncFor, ast.AsyncWith, ast.Await, ast.Div, ast.Import)
LIBRARY = {"heapq", "math", "itertools", "collections"}


def name_of(path):
    return ".".join(path.relative_to(TOP.parent).with_suffix("").parts)


def tree_of(path):
    return ast.parse(path.read_text(encoding="utf-8"))


def bound_at_top(tree):
    """The names that a file binds, each as often as it does."""
    names = []
    for part in tree.body:
        if isinstance(part, ast.ImportFrom):
            names += [alias.asname or alias.name for alias in part.names]
        elif isinstance(part, (ast.FunctionDef, ast.ClassDef)):
            names.append(part.name)
        elif isinstance(part, ast.Assign):
            names += [target.id for target in part.targets]
    return names


class Form(unittest.TestCase):
    def test_files(self):
        self.assertLessEqual(len(FILES), 100)
        for path in TOP.rglob("*"):
            if path.name == "__pycache__" or path.suffix == ".pyc":
                continue
            if path.is_dir():
                self.assertTrue((path / "__init__.py").exists(), path)
            else:
                self.assertRegex(path.name, r"^[a-z0-9_]+\.py$")
                self.assertFalse(path.with_suffix("").is_dir())
                self.assertNotIn(path.stem, dir(builtins))

    def test_lines_and_signs(self):
        for path in FILES:
            text = path.read_bytes().decode("ascii")
            self.assertFalse(set(text) - {chr(sign) for sign in range(32, 127)} - {"\n"}, path)
            lines = text.split("\n")
            self.assertLessEqual(len(lines), 400, path)
            self.assertLessEqual(max(map(len, lines)), 120, path)

    def test_sizes_and_docstrings(self):
        for path in FILES:
            tree = tree_of(path)
            self.assertTrue(ast.get_docstring(tree), path)
            for node in ast.walk(tree):
                if isinstance(node, ast.FunctionDef):
                    self.assertLessEqual(node.end_lineno - node.lineno + 1, 40, node.name)
                    self.assertEqual(node.decorator_list, [])

    def test_top_level(self):
        for path in FILES:
            tree = tree_of(path)
            for part in tree.body[1:]:
                self.assertIsInstance(part, (ast.ImportFrom, ast.Assign, ast.FunctionDef, ast.ClassDef), path)
            names = bound_at_top(tree)
            self.assertEqual(len(names), len(set(names)), path)

    def test_imports(self):
        after = {}
        for path in FILES:
            after[name_of(path)] = []
            for node in ast.walk(tree_of(path)):
                if isinstance(node, ast.ImportFrom) and node.module not in LIBRARY:
                    self.assertEqual(node.level, 0)
                    self.assertTrue(node.module.startswith("soleseat."))
                    source = TOP.parent / (node.module.replace(".", "/") + ".py")
                    for alias in node.names:
                        self.assertIsNone(alias.asname)
                        defined = [part for part in tree_of(source).body if not isinstance(part, ast.ImportFrom)]
                        self.assertIn(alias.name, bound_at_top(ast.Module(defined, [])), path)
                        used = re.findall(r"\b" + alias.name + r"\b", path.read_text())
                        self.assertGreater(len(used), 1, (path, alias.name))
                    after[name_of(path)].append(node.module)
        done = set()
        while len(done) < len(after):
            ready = [name for name in after if name not in done and done.issuperset(after[name])]
            self.assertTrue(ready, "files that import one another")
            done.update(ready)

    def test_nodes(self):
        for path in FILES:
            for node in ast.walk(tree_of(path)):
                self.assertNotIsInstance(node, NODES, path)
                if isinstance(node, ast.Constant):
                    self.assertNotIsInstance(node.value, (float, complex), path)
                if isinstance(node, ast.Compare):
                    for sign, right in zip(node.ops, node.comparators):
                        if isinstance(sign, (ast.Is, ast.IsNot)):
                            self.assertIn(getattr(right, "value", right), (None, True, False), path)

    def test_names(self):
        for path in FILES:
            tree = tree_of(path)
            there = set(bound_at_top(tree))
            for node in ast.walk(tree):
                if isinstance(node, (ast.FunctionDef, ast.ClassDef)):
                    if node.name.startswith("__"):
                        self.assertIn(node.name, DOUBLE)
                    else:
                        self.assertNotIn(node.name, dir(builtins))
                name = node.arg if isinstance(node, ast.arg) else None
                if isinstance(node, ast.Name) and isinstance(node.ctx, ast.Store):
                    name = node.id
                    if any(node in ast.walk(part) for part in tree.body if isinstance(part, ast.Assign)):
                        continue
                if name is not None:
                    self.assertNotIn(name, dir(builtins), path)
                    self.assertNotIn(name, there, path)

    def test_calls(self):
        own = {node.name for path in FILES for node in ast.walk(tree_of(path)) if isinstance(node, ast.FunctionDef)}
        for path in FILES:
            tree = tree_of(path)
            there = set(bound_at_top(tree))
            for node in ast.walk(tree):
                if isinstance(node, ast.Call) and isinstance(node.func, ast.Name):
                    self.assertIn(node.func.id, CALLED | there, path)
                if isinstance(node, ast.Call) and isinstance(node.func, ast.Attribute):
                    self.assertIn(node.func.attr, METHODS | own, path)
                if isinstance(node, ast.Name) and node.id in dir(builtins):
                    self.assertIn(node.id, CALLED | ERRORS, path)
            self.assertEqual(own & (METHODS | set(dir(dict)) | set(dir(list)) | set(dir(str)) | set(dir(set))) - DOUBLE,
                             set())

    def test_words(self):
        for path in FILES:
            with tokenize.open(path) as held:
                for token in tokenize.generate_tokens(held.readline):
                    if token.type == tokenize.NAME:
                        self.assertNotIn(token.string, BARRED | {"open", "input", "law", "register", "elements"})
                    if token.type == tokenize.STRING and not token.string.startswith('"""'):
                        self.assertNotIn("%", token.string)
                        self.assertFalse(BARRED & set(re.findall(r"\w+", token.string)))

    def test_methods_and_values(self):
        methods, values = {}, {}
        for path in FILES:
            for made in ast.walk(tree_of(path)):
                if isinstance(made, ast.ClassDef):
                    names = [part.name for part in made.body if isinstance(part, ast.FunctionDef)]
                    self.assertEqual(len(names), len(set(names)))
                    methods[made.name] = set(names)
                    values[made.name] = {
                        node.attr for node in ast.walk(made)
                        if isinstance(node, ast.Attribute) and isinstance(node.ctx, ast.Store)}
        for name in methods:
            self.assertEqual(methods[name] & values[name], set(), name)
        told = set().union(*values.values())
        for path in FILES:
            for node in ast.walk(tree_of(path)):
                if isinstance(node, ast.Attribute) and isinstance(node.ctx, ast.Load):
                    self.assertIn(node.attr, told | METHODS | set().union(*methods.values()), path)


if __name__ == "__main__":
    unittest.main()
