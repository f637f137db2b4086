"""The form of the code: what of it can be seen file by file."""

import ast
import builtins
import pathlib
import unittest

import farstory

FOLDER = pathlib.Path(farstory.__file__).parent
FILES = sorted(FOLDER.rglob("*.py"))
BUILTINS = set("""
    len range enumerate zip min max sum abs sorted reversed int str bool bytes list tuple dict set frozenset isinstance
    ord repr any all divmod pow iter next map Exception ValueError TypeError KeyError IndexError LookupError
    ZeroDivisionError ArithmeticError OverflowError RuntimeError NotImplementedError StopIteration NotImplemented
""".split())
LIBRARY = {"heapq", "math", "itertools", "collections"}
METHODS = set("""
    append clear copy count endswith extend find get index insert isalnum isalpha isdigit islower isspace isupper items
    join keys ljust lower lstrip partition pop remove replace reverse rfind rjust rpartition rsplit rstrip setdefault
    split splitlines startswith strip update upper values zfill bit_length add discard sort
""".split())
BARRED = set("""
    register mro elements open input law version_info with_traceback add_note attrgetter breakpoint builtins compile
    copyright credits delattr dir eval exec exit gc getattr globals hasattr help id importlib license locals
    methodcaller os quit setattr super type vars typing enum namedtuple dataclass overload contextmanager sys
""".split())


def names_bound(tree):
    """All names of variables, parameters, functions, classes in a tree."""
    for node in ast.walk(tree):
        if isinstance(node, ast.Name) and isinstance(node.ctx, ast.Store):
            yield node.id
        elif isinstance(node, ast.arg):
            yield node.arg
        elif isinstance(node, (ast.FunctionDef, ast.ClassDef)):
            yield node.name
        elif isinstance(node, ast.ExceptHandler) and node.name:
            yield node.name


def is_plain(node, functions):
    """Whether what is assigned at module level is plain, or a dict of functions that are defined above."""
    if isinstance(node, ast.Dict) and all(isinstance(value, ast.Name) for value in node.values):
        return all(value.id in functions for value in node.values) and all(ast.literal_eval(key) for key in node.keys)
    ast.literal_eval(node)
    return True


def imports_of(tree):
    return [node for node in ast.walk(tree) if isinstance(node, (ast.Import, ast.ImportFrom))]


class Code(unittest.TestCase):
    def setUp(self):
        self.texts = {path: path.read_text(encoding="utf-8") for path in FILES}
        self.trees = {path: ast.parse(text) for path, text in self.texts.items()}

    def test_files(self):
        self.assertLessEqual(len(FILES), 100)
        for path in FOLDER.rglob("*"):
            if "__pycache__" not in path.parts:
                self.assertTrue(path.suffix == ".py" or path.is_dir(), path)
                self.assertEqual(path.name, path.name.lower())

    def test_sizes_and_signs(self):
        for path, text in self.texts.items():
            lines = text.split("\n")
            self.assertLessEqual(len(lines), 399, path)
            for line in lines:
                self.assertLessEqual(len(line), 120, (path, line))
                self.assertTrue(all(" " <= sign <= "~" for sign in line), (path, line))

    def test_functions(self):
        for path, tree in self.trees.items():
            for node in ast.walk(tree):
                if isinstance(node, ast.FunctionDef):
                    self.assertLessEqual(node.end_lineno - node.lineno + 1, 40, (path, node.name))
                    self.assertEqual(node.decorator_list, [], (path, node.name))

    def test_module_level(self):
        plain = (ast.FunctionDef, ast.ClassDef, ast.ImportFrom, ast.Assign)
        for path, tree in self.trees.items():
            names = [name for node in tree.body for name in (
                [node.name] if isinstance(node, (ast.FunctionDef, ast.ClassDef)) else
                [target.id for target in node.targets] if isinstance(node, ast.Assign) else
                [alias.name for alias in node.names] if isinstance(node, ast.ImportFrom) else [])]
            self.assertEqual(len(names), len(set(names)), path)
            self.assertIsInstance(tree.body[0], ast.Expr, path)
            functions = []
            for node in tree.body[1:]:
                self.assertIsInstance(node, plain, path)
                if isinstance(node, ast.FunctionDef):
                    functions.append(node.name)
                if isinstance(node, ast.Assign):
                    self.assertEqual(len(node.targets), 1)
                    self.assertTrue(is_plain(node.value, functions), path)

    def test_imports(self):
        seen = {}
        for path, tree in self.trees.items():
            seen[path.stem] = []
            for node in imports_of(tree):
                self.assertIsInstance(node, ast.ImportFrom, path)
                self.assertIn(node, tree.body)
                self.assertEqual(node.level, 0)
                self.assertTrue(all(alias.asname is None for alias in node.names))
                if node.module in LIBRARY:
                    continue
                package, stem = node.module.split(".")
                self.assertEqual(package, "farstory")
                seen[path.stem].append(stem)
                there = set(names_bound(self.trees[FOLDER / (stem + ".py")]))
                self.assertTrue(all(alias.name in there for alias in node.names), (path, node.module))
        done = []
        while len(done) < len(seen):
            ready = [stem for stem in seen if stem not in done and all(other in done for other in seen[stem])]
            self.assertTrue(ready, "files import from each other")
            done += ready

    def test_imports_are_used(self):
        for path, tree in self.trees.items():
            read = {node.id for node in ast.walk(tree) if isinstance(node, ast.Name) and isinstance(node.ctx, ast.Load)}
            for node in imports_of(tree):
                self.assertTrue(all(alias.name in read for alias in node.names), (path, node.module))

    def test_names(self):
        for path, tree in self.trees.items():
            taken = {alias.name for node in imports_of(tree) for alias in node.names}
            taken |= {node.name for node in ast.walk(tree) if isinstance(node, ast.ClassDef)}
            for node in ast.walk(tree):
                if isinstance(node, ast.FunctionDef):
                    inside = set(names_bound(node.args)) | {name for row in node.body for name in names_bound(row)}
                    self.assertFalse(inside & taken, (path, node.name, inside & taken))
            for name in set(names_bound(tree)) - {"_", "__init__"}:
                self.assertFalse(hasattr(builtins, name), (path, name))
                self.assertNotIn(name, BARRED, path)
                self.assertFalse(name.startswith("_"), (path, name))

    def test_what_is_read(self):
        for path, tree in self.trees.items():
            bound = set(names_bound(tree)) | {alias.name for node in imports_of(tree) for alias in node.names}
            for node in ast.walk(tree):
                if isinstance(node, ast.Name) and isinstance(node.ctx, ast.Load):
                    self.assertNotEqual(node.id, "_", path)
                    self.assertIn(node.id, bound | BUILTINS, path)

    def test_methods_that_are_called(self):
        own = {node.name for tree in self.trees.values() for node in ast.walk(tree) if isinstance(node, ast.FunctionDef)}
        for path, tree in self.trees.items():
            for node in ast.walk(tree):
                if isinstance(node, ast.Call) and isinstance(node.func, ast.Attribute):
                    self.assertIn(node.func.attr, METHODS | own, path)

    def test_signs_that_are_barred(self):
        barred = (ast.Global, ast.AsyncFunctionDef, ast.Await, ast.Div, ast.MatMult)
        for path, tree in self.trees.items():
            for node in ast.walk(tree):
                self.assertNotIsInstance(node, barred, path)
                if isinstance(node, ast.Constant):
                    self.assertNotIsInstance(node.value, (float, complex), path)
                if isinstance(node, ast.BinOp) and isinstance(node.op, ast.Pow):
                    self.assertIsInstance(node.right, ast.Constant, path)
                    self.assertLessEqual(node.right.value, 64, path)
                if isinstance(node, ast.Compare):
                    for sign, right in zip(node.ops, node.comparators):
                        if isinstance(sign, (ast.Is, ast.IsNot)):
                            self.assertIsInstance(right, ast.Constant, path)

    def test_every_file_tells_what_it_is(self):
        for path, tree in self.trees.items():
            self.assertTrue(ast.get_docstring(tree), path)
