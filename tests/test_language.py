"""The package keeps to the subset of Python that is asked for, as far as a short test can see it."""
import ast
import os
import re
import unittest

HERE = os.path.dirname(os.path.abspath(__file__))
PACKAGE = os.path.join(os.path.dirname(HERE), "fewmarks")

BUILTINS = {"len", "range", "enumerate", "zip", "min", "max", "sum", "abs", "sorted", "reversed", "int", "str", "bool",
            "list", "tuple", "dict", "set", "isinstance", "ord", "repr", "any", "all", "divmod", "iter", "next", "super",
            "Exception", "ValueError", "TypeError", "KeyError", "IndexError", "LookupError", "ArithmeticError",
            "OverflowError", "RuntimeError", "NotImplementedError", "NotImplemented", "property", "classmethod", "staticmethod"}
METHODS = set("""append clear copy count endswith extend find get index insert isalnum isalpha isdigit islower isspace
isupper items join keys ljust lower lstrip partition pop remove replace reverse rfind rjust rpartition rsplit rstrip
setdefault split splitlines startswith strip update upper values zfill bit_length isdecimal""".split())
BARRED = {"register", "mro", "elements", "open", "input", "law", "version_info", "with_traceback", "add_note", "compile",
          "copyright", "credits", "delattr", "dir", "eval", "exec", "exit", "gc", "getattr", "globals", "hasattr", "help",
          "id", "importlib", "license", "locals", "os", "quit", "setattr", "type", "vars", "hash", "map", "round", "filter",
          "object", "format", "print", "float", "complex", "callable", "slice", "pow", "hex", "bin", "oct", "iter", "next"}
BARRED_WORDS = (r"\b(type|typing|enum|Enum|IntEnum|Flag|Generic|Protocol|ABC|namedtuple|NamedTuple|TypedDict)\b"
                r"|dataclass|overload|contextmanager|metaclass=|Meta|\(type\)|_wall|_WallAttr")
UNUSED = (ast.Global, ast.AsyncFunctionDef, ast.Await, ast.AnnAssign, ast.Import, ast.Lambda, ast.GeneratorExp, ast.Match)
GENERATORS = ("for", "list", "tuple", "dict", "sorted", "sum", "min", "max", "any", "all", "enumerate", "zip")


def files():
    found = []
    for folder, _, names in os.walk(PACKAGE):
        found += [os.path.join(folder, name) for name in names if not folder.endswith("__pycache__")]
    return sorted(found)


def module_of(path):
    parts = os.path.relpath(path, os.path.dirname(PACKAGE))[:-3].split(os.sep)
    return ".".join(parts[:-1] if parts[-1] == "__init__" else parts)


class TestLanguage(unittest.TestCase):
    def setUp(self):
        self.sources = {}
        for path in files():
            with open(path, encoding="utf-8") as source:
                self.sources[path] = source.read()
        self.trees = {path: ast.parse(source) for path, source in self.sources.items()}

    def test_files(self):
        self.assertLessEqual(len(self.sources), 100)
        for path, source in self.sources.items():
            self.assertTrue(path.endswith(".py"), path)
            lines = source.split("\n")
            self.assertLessEqual(len(lines) - 1, 399, path)
            for line in lines:
                self.assertLessEqual(len(line), 120, (path, line))
                self.assertTrue(all(" " <= sign <= "~" for sign in line), (path, line))
            self.assertIsNone(re.search(BARRED_WORDS, source), path)
        folders = {os.path.dirname(path) for path in self.sources}
        for folder in folders:
            self.assertIn(os.path.join(folder, "__init__.py"), self.sources)
            self.assertNotIn(folder + ".py", self.sources)

    def test_functions_are_short(self):
        for path, tree in self.trees.items():
            for node in ast.walk(tree):
                if isinstance(node, ast.FunctionDef):
                    self.assertLessEqual(node.end_lineno - node.lineno + 1, 40, (path, node.name))

    def test_statements(self):
        for path, tree in self.trees.items():
            for node in ast.walk(tree):
                self.assertNotIsInstance(node, UNUSED, (path, getattr(node, "lineno", 0)))
                if isinstance(node, ast.Constant) and isinstance(node.value, (float, complex, bytes)):
                    self.fail((path, node.lineno))
                if isinstance(node, ast.Constant) and isinstance(node.value, str):
                    self.assertNotIn("%", node.value, path)
                self.assertNotIsInstance(node, (ast.Div, ast.Pow), path)
                if isinstance(node, ast.Raise):
                    self.assertIsInstance(node.exc, ast.Call, path)
            for node in tree.body:
                docstring = isinstance(node, ast.Expr) and isinstance(node.value, ast.Constant)
                self.assertTrue(docstring or isinstance(node, (ast.ImportFrom, ast.FunctionDef, ast.ClassDef, ast.Assign)), path)

    def test_errors_that_are_caught_are_own_ones(self):
        """A try has one row, an assignment or a return of a call, and handlers of one own error each that raise another one."""
        with open(os.path.join(PACKAGE, "errors.py"), encoding="utf-8") as source:
            own = {node.name for node in ast.parse(source.read()).body if isinstance(node, ast.ClassDef)}
        for path, tree in self.trees.items():
            for node in ast.walk(tree):
                if isinstance(node, ast.Try):
                    self.assertEqual((len(node.body), node.orelse, node.finalbody), (1, [], []), path)
                    self.assertIsInstance(node.body[0], (ast.Assign, ast.Return), path)
                    self.assertIsInstance(node.body[0].value, ast.Call, path)
                    self.assertTrue(node.handlers, path)
                    for handler in node.handlers:
                        self.assertIn(getattr(handler.type, "id", None), own, path)
                        self.assertIsInstance(handler.body[0], ast.Raise, path)

    def test_ends_of_blocks(self):
        """The rows of `__exit__` put attributes back."""
        for path, tree in self.trees.items():
            for node in ast.walk(tree):
                if isinstance(node, ast.FunctionDef) and node.name == "__exit__":
                    self.assertEqual(len(node.args.args), 4)
                    for row in node.body:
                        self.assertIsInstance(row, ast.Assign, path)
                        for part in row.targets + [row.value]:
                            self.assertIsInstance(part, ast.Attribute, path)
                if isinstance(node, ast.With):
                    self.assertEqual(len(node.items), 1)
                    self.assertIsInstance(node.items[0].context_expr, ast.Call, path)
                    self.assertIsInstance(node.items[0].optional_vars, ast.Name, path)

    def test_stars_and_generators(self):
        """Behind a star stands a name; what a generator gives is walked at once, and what it is handed are names and attributes."""
        generators = {node.name for tree in self.trees.values() for node in ast.walk(tree) if isinstance(node, ast.FunctionDef)
                      and any(isinstance(part, (ast.Yield, ast.YieldFrom)) for part in ast.walk(node))}
        self.assertIn("walk", generators)
        for path, tree in self.trees.items():
            walked = set()
            for node in ast.walk(tree):
                if isinstance(node, ast.Call) and isinstance(node.func, ast.Name) and node.func.id in GENERATORS:
                    walked |= {id(part) for part in node.args}
                if isinstance(node, (ast.For, ast.comprehension)):
                    walked.add(id(node.iter))
            for node in ast.walk(tree):
                if isinstance(node, ast.Starred):
                    self.assertIsInstance(node.value, ast.Name, (path, node.lineno))
                if isinstance(node, ast.Call):
                    name = node.func.id if isinstance(node.func, ast.Name) else node.func.attr
                    if name in generators:
                        self.assertIn(id(node), walked, (path, node.lineno))
                        for part in node.args:
                            self.assertIsInstance(part, (ast.Name, ast.Attribute, ast.Constant), (path, node.lineno))

    def test_classes_are_called_or_asked_for(self):
        """A class is called, read for a class method, or stands in isinstance, except or raise, or among the bases."""
        classes = {node.name for tree in self.trees.values() for node in ast.walk(tree) if isinstance(node, ast.ClassDef)}
        for path, tree in self.trees.items():
            fine = set()
            for node in ast.walk(tree):
                if isinstance(node, ast.Call):
                    fine.add(id(node.func))
                    if isinstance(node.func, ast.Attribute):
                        fine.add(id(node.func.value))
                    if isinstance(node.func, ast.Name) and node.func.id == "isinstance":
                        fine.add(id(node.args[1]))
                if isinstance(node, ast.ExceptHandler):
                    fine.add(id(node.type))
                if isinstance(node, ast.ClassDef):
                    fine |= {id(base) for base in node.bases}
            for node in ast.walk(tree):
                if isinstance(node, ast.Name) and node.id in classes:
                    self.assertIn(id(node), fine, (path, node.lineno))

    def test_names(self):
        for path, tree in self.trees.items():
            top = [node.name for node in tree.body if isinstance(node, (ast.FunctionDef, ast.ClassDef))]
            top += [name.id for node in tree.body if isinstance(node, ast.Assign) for name in node.targets]
            imports = [name.name for node in tree.body if isinstance(node, ast.ImportFrom) for name in node.names]
            self.assertEqual(len(set(top + imports)), len(top + imports), path)
            classes = [node.name for node in tree.body if isinstance(node, ast.ClassDef)]
            for node in ast.walk(tree):
                local = None
                if isinstance(node, ast.Name) and isinstance(node.ctx, ast.Store):
                    local = node.id
                if isinstance(node, ast.arg):
                    local = node.arg
                if local is not None:
                    self.assertNotIn(local, imports + classes, path)
                    self.assertNotIn(local, BARRED | BUILTINS, path)
                    self.assertFalse(local.startswith("__"), path)
                if isinstance(node, ast.Name) and isinstance(node.ctx, ast.Load):
                    self.assertNotEqual(node.id, "_", path)
                    if hasattr(__builtins__, node.id) if not isinstance(__builtins__, dict) else node.id in __builtins__:
                        self.assertIn(node.id, BUILTINS, path)
                if isinstance(node, ast.FunctionDef):
                    self.assertNotIn(node.name, BARRED | BUILTINS, path)
            for name in imports:
                used = [node for node in ast.walk(tree) if isinstance(node, ast.Name) and node.id == name]
                self.assertTrue(used, (path, name))

    def test_methods_of_builtin_values(self):
        own = {node.name for tree in self.trees.values() for node in ast.walk(tree) if isinstance(node, ast.FunctionDef)}
        for path, tree in self.trees.items():
            for node in ast.walk(tree):
                if isinstance(node, ast.Call) and isinstance(node.func, ast.Attribute):
                    self.assertIn(node.func.attr, own | METHODS, path)

    def test_imports_name_the_file_and_form_no_circle(self):
        modules = {module_of(path): tree for path, tree in self.trees.items()}
        needs = {}
        for module, tree in modules.items():
            needs[module] = set()
            for node in ast.walk(tree):
                if isinstance(node, ast.ImportFrom):
                    self.assertEqual(node.level, 0)
                    self.assertIn(node.module, modules)
                    parts = node.module.split(".")
                    needs[module] |= {".".join(parts[:many]) for many in range(1, len(parts) + 1)} - {module}
                    defined = [part.name for part in modules[node.module].body if isinstance(part, (ast.FunctionDef, ast.ClassDef))]
                    defined += [name.id for part in modules[node.module].body if isinstance(part, ast.Assign) for name in part.targets]
                    for name in node.names:
                        self.assertIsNone(name.asname)
                        self.assertIn(name.name, defined)
        for _ in needs:
            for module in needs:
                for other in list(needs[module]):
                    needs[module] |= needs[other]
        for module in needs:
            self.assertNotIn(module, needs[module])

    def test_any_all_and_sums_take_lists_and_sets_stand_in_sorted_or_len(self):
        for path, tree in self.trees.items():
            fine = set()
            for node in ast.walk(tree):
                if isinstance(node, ast.Call) and isinstance(node.func, ast.Name) and node.func.id in ("sorted", "len"):
                    fine |= {id(part) for part in node.args if not node.keywords}
            for node in ast.walk(tree):
                made = isinstance(node, ast.Call) and isinstance(node.func, ast.Name) and node.func.id == "set"
                if made or isinstance(node, (ast.SetComp, ast.Set)):
                    self.assertIn(id(node), fine, (path, node.lineno))


if __name__ == "__main__":
    unittest.main()
