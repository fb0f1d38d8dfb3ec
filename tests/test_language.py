"""Those rules of LANGUAGE.md that can be told from the code by simple means, for each file of the package."""

import ast
import builtins
import unittest
from pathlib import Path

FOLDER = Path(__file__).resolve().parent.parent / "turnedapart"
FILES = sorted(FOLDER.rglob("*.py"))
TREES = {path: ast.parse(path.read_text()) for path in FILES}
LIBRARY = {"heapq", "math", "itertools", "collections", "__future__"}
CALLED = set("""len range enumerate zip min max sum abs sorted reversed int str bool list tuple dict set isinstance
                ord repr any all divmod""".split())
ERRORS = {name for name, value in vars(builtins).items() if isinstance(value, type) and issubclass(value, Exception)}
ALLOWED = (ast.FunctionDef, ast.ClassDef, ast.ImportFrom, ast.Assign, ast.Expr)
METHODS = set("""append clear copy count endswith extend find get index insert isalnum isalpha isdigit islower isspace
                 isupper items join keys ljust lower lstrip partition pop remove replace reverse rfind rjust rpartition
                 rsplit rstrip setdefault split splitlines startswith strip update upper values zfill bit_length
                 isdecimal""".split())
FEEDING = {"any", "all", "min", "max", "sum", "sorted"}


def nodes_in(path, *kinds):
    return [node for node in ast.walk(TREES[path]) if isinstance(node, kinds)]


def bound_names(path):
    """All names that are assigned, passed or defined in a file, but those of methods and imports."""
    methods = {id(node) for own in nodes_in(path, ast.ClassDef) for node in own.body}
    for node in nodes_in(path, ast.Name, ast.arg, ast.FunctionDef, ast.ClassDef):
        if isinstance(node, ast.arg):
            yield node.arg
        elif isinstance(node, ast.Name):
            if not isinstance(node.ctx, ast.Load):
                yield node.id
        elif id(node) not in methods:
            yield node.name


class Rules(unittest.TestCase):
    def each(self, *kinds):
        for path in FILES:
            for node in nodes_in(path, *kinds):
                yield path, node, f"{path.name}:{getattr(node, 'lineno', 0)}"

    def test_sizes_and_signs(self):
        for path in FILES:
            text = path.read_text()
            self.assertLessEqual(len(text.splitlines()), 399, path)
            self.assertTrue(all(sign == "\n" or " " <= sign <= "~" for sign in text), path)
            self.assertLessEqual(max(len(line) for line in text.splitlines()), 120, path)
        for _, node, place in self.each(ast.FunctionDef):
            self.assertLessEqual(node.end_lineno - node.lineno + 1, 40, place)

    def test_only_files_of_the_language(self):
        for path in FOLDER.rglob("*"):
            if "__pycache__" not in path.parts:
                self.assertTrue(path.suffix == ".py" and path.name == path.name.lower(), path)

    def test_module_level(self):
        for path in FILES:
            for node in TREES[path].body:
                self.assertIsInstance(node, ALLOWED, path)

    def test_imports(self):
        for path, node, place in self.each(ast.Import, ast.ImportFrom):
            self.assertIsInstance(node, ast.ImportFrom, place)
            own = node.module.startswith("turnedapart.") and node.level == 0
            self.assertTrue(own or node.module in LIBRARY, place)
            defined = [alias.name for alias in node.names]
            if own:
                source = FOLDER / (node.module.split(".")[1] + ".py")
                names = {item.name for item in TREES[source].body if isinstance(item, (ast.FunctionDef, ast.ClassDef))}
                self.assertLessEqual(set(defined), names, place)

    def test_names(self):
        for path in FILES:
            imported = {alias.name for node in nodes_in(path, ast.ImportFrom) for alias in node.names}
            for name in bound_names(path):
                self.assertFalse(hasattr(builtins, name) or name in imported or name.startswith("__"), (path, name))

    def test_builtins(self):
        for path, node, place in self.each(ast.Name):
            if hasattr(builtins, node.id):
                self.assertTrue(node.id in CALLED or node.id in ERRORS, (place, node.id))

    def test_no_floats(self):
        for path, node, place in self.each(ast.Constant):
            self.assertNotIsInstance(node.value, float, place)
        for path, node, place in self.each(ast.Div):
            self.fail(place)

    def test_lists_where_a_class_compares(self):
        for path, node, place in self.each(ast.Call):
            if isinstance(node.func, ast.Name) and node.func.id in FEEDING:
                self.assertFalse([value for value in node.args if isinstance(value, ast.GeneratorExp)], place)

    def test_methods_of_builtin_values(self):
        own = {node.name for _, made, _ in self.each(ast.ClassDef) for node in made.body
               if isinstance(node, ast.FunctionDef)}
        for path, node, place in self.each(ast.Call):
            if isinstance(node.func, ast.Attribute):
                self.assertIn(node.func.attr, METHODS | own, place)

    def test_sets_are_not_iterated_or_kept(self):
        fine = {id(node) for _, call, _ in self.each(ast.Call) if isinstance(call.func, ast.Name)
                and call.func.id in ("sorted", "len") for part in call.args for node in ast.walk(part)}
        for path, node, place in self.each(ast.SetComp, ast.Set, ast.Call):
            if not isinstance(node, ast.Call) or isinstance(node.func, ast.Name) and node.func.id == "set":
                self.assertIn(id(node), fine, place)

    def test_files_do_not_import_from_each_other(self):
        uses = {path.stem: {node.module.split(".")[1] for node in nodes_in(path, ast.ImportFrom)
                            if node.module.startswith("turnedapart.")} for path in FILES}
        while uses:
            free = [name for name, others in uses.items() if not others & set(uses)]
            self.assertTrue(free, uses)
            uses = {name: others for name, others in uses.items() if name not in free}
