"""The form of the package's code, as far as a small look can tell: sizes, signs, imports, builtins, methods."""

import ast
import builtins
import pathlib
import unittest

PACKAGE = pathlib.Path(__file__).resolve().parent.parent / "kindnames"

LET_BUILTINS = set("""len range enumerate zip min max sum abs sorted reversed int str bool bytes list tuple dict set
    frozenset isinstance ord repr any all divmod iter next map Exception ValueError TypeError KeyError IndexError
    LookupError ZeroDivisionError ArithmeticError OverflowError RuntimeError NotImplementedError AttributeError
    StopIteration NotImplemented property staticmethod classmethod super""".split())

LET_BUILTIN_METHODS = set("""append clear copy count endswith extend find get index insert isalnum isalpha isdigit islower
    isspace isupper items join keys ljust lower lstrip partition pop remove replace reverse rfind rjust rpartition rsplit
    rstrip setdefault split splitlines startswith strip update upper values zfill bit_length""".split())

LET_DOUBLE = set("__init__ __eq__ __repr__ __str__ __len__ __call__ __iter__".split())

NOT_LET = (ast.Global, ast.AsyncFunctionDef, ast.AsyncFor, ast.AsyncWith, ast.Await, ast.Import, ast.Div)

TAKE_LISTS = ("any", "all", "min", "max", "sum", "sorted")


def files():
    return sorted(PACKAGE.rglob("*.py"))


class Form(unittest.TestCase):
    def each(self, kinds):
        for path in files():
            for node in ast.walk(ast.parse(path.read_text())):
                if isinstance(node, kinds):
                    yield path.name, node

    def test_the_package_holds_nothing_but_its_files(self):
        there = [path for path in PACKAGE.rglob("*") if "__pycache__" not in path.parts]
        self.assertEqual(sorted(there), files())

    def test_sizes_and_signs(self):
        for path in files():
            rows = path.read_text().split("\n")
            self.assertLessEqual(len(rows), 399, path.name)
            for row in rows:
                self.assertLessEqual(len(row), 120, f"{path.name}: {row}")
                self.assertTrue(all(" " <= sign <= "~" for sign in row), f"{path.name}: {row}")
        for name, node in self.each(ast.FunctionDef):
            self.assertLessEqual(node.end_lineno - node.lineno + 1, 40, f"{name}: {node.name}")

    def test_imports_are_from_the_file_that_defines_the_name(self):
        for name, node in self.each(ast.ImportFrom):
            package, _, module = node.module.partition(".")
            self.assertEqual((package, node.level), ("kindnames", 0), name)
            rows = ast.parse((PACKAGE / f"{module}.py").read_text()).body
            own = [row.name for row in rows if isinstance(row, (ast.FunctionDef, ast.ClassDef))]
            own += [row.targets[0].id for row in rows if isinstance(row, ast.Assign)]
            for each in node.names:
                self.assertIsNone(each.asname)
                self.assertIn(each.name, own, f"{name}: {each.name}")

    def test_every_import_is_used(self):
        for path in files():
            tree = ast.parse(path.read_text())
            used = [node.id for node in ast.walk(tree) if isinstance(node, ast.Name)]
            for node in ast.walk(tree):
                if isinstance(node, ast.ImportFrom):
                    for each in node.names:
                        self.assertIn(each.name, used, f"{path.name}: {each.name}")

    def test_only_plain_statements_and_values(self):
        for name, node in self.each(NOT_LET):
            self.fail(f"{name}: {type(node).__name__} in row {node.lineno}")
        for name, node in self.each(ast.FunctionDef):
            self.assertEqual(node.decorator_list, [], f"{name}: {node.name}")
            if node.name.startswith("__"):
                self.assertIn(node.name, LET_DOUBLE, name)

    def test_no_generator_stands_where_a_class_with_an_equality_bars_it(self):
        for name, node in self.each(ast.Call):
            if isinstance(node.func, ast.Name) and node.func.id in TAKE_LISTS:
                for each in node.args:
                    self.assertNotIsInstance(each, ast.GeneratorExp, f"{name}: row {node.lineno}")

    def test_sets_are_only_counted_sorted_or_compared(self):
        for path in files():
            tree = ast.parse(path.read_text())
            let = []
            for node in ast.walk(tree):
                if isinstance(node, ast.Call) and isinstance(node.func, ast.Name) and node.func.id in ("len", "sorted"):
                    let += [id(each) for each in node.args]
                if isinstance(node, ast.Compare):
                    let += [id(each) for each in [node.left] + node.comparators]
                # Several in one place, joined by a sign.
                if isinstance(node, ast.BinOp) and id(node) in let:
                    let += [id(node.left), id(node.right)]
            for node in ast.walk(tree):
                is_set = isinstance(node, ast.SetComp)
                is_set = is_set or isinstance(node, ast.Call) and isinstance(node.func, ast.Name) and node.func.id == "set"
                if is_set:
                    self.assertIn(id(node), let, f"{path.name}: row {node.lineno}")

    def test_builtins(self):
        for name, node in self.each(ast.Name):
            if node.id in vars(builtins):
                self.assertIn(node.id, LET_BUILTINS, f"{name}: row {node.lineno}")
                self.assertIsInstance(node.ctx, ast.Load, f"{name}: row {node.lineno}")
        for name, node in self.each(ast.arg):
            self.assertNotIn(node.arg, vars(builtins), name)

    def test_methods(self):
        own = {node.name for _, node in self.each(ast.FunctionDef)}
        given = {method for sort in (str, list, dict, set, tuple, int, bytes) for method in dir(sort)}
        self.assertEqual({name for name in own & given if not name.startswith("__")}, set())
        for name, node in self.each(ast.Call):
            if isinstance(node.func, ast.Attribute):
                self.assertIn(node.func.attr, LET_BUILTIN_METHODS | own | {"__init__"}, f"{name}: row {node.lineno}")
                if node.func.attr in LET_BUILTIN_METHODS:
                    self.assertEqual(node.keywords, [], f"{name}: row {node.lineno}")

    def test_no_name_is_a_method_and_an_attribute(self):
        own = {node.name for _, node in self.each(ast.FunctionDef)}
        for name, node in self.each(ast.Attribute):
            if isinstance(node.ctx, ast.Store):
                self.assertNotIn(node.attr, own, f"{name}: row {node.lineno}")
                self.assertNotIn(node.attr, dir(dict) + dir(list) + dir(str), f"{name}: row {node.lineno}")

    def test_no_local_name_is_that_of_a_class_or_an_import_of_its_file(self):
        for path in files():
            tree = ast.parse(path.read_text())
            bound = [each.name for node in ast.walk(tree) if isinstance(node, ast.ImportFrom) for each in node.names]
            bound += [node.name for node in ast.walk(tree) if isinstance(node, ast.ClassDef)]
            bound += [node.name for node in tree.body if isinstance(node, ast.FunctionDef)]
            for node in ast.walk(tree):
                if isinstance(node, ast.arg):
                    self.assertNotIn(node.arg, bound, path.name)
                if isinstance(node, ast.Name) and isinstance(node.ctx, ast.Store):
                    self.assertNotIn(node.id, bound, path.name)


if __name__ == "__main__":
    unittest.main()
