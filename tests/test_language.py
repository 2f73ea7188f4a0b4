"""Some of the rules by which the package is written, as far as they can be told from the code alone."""

import ast
import builtins
import unittest
from pathlib import Path

PACKAGE = Path(__file__).resolve().parent.parent / "poleribbons"
FILES = sorted(PACKAGE.glob("*.py"))
LIBRARY = {"math": {"gcd", "lcm", "isqrt", "comb", "perm", "factorial"}}
BUILTINS = {
    "len", "range", "enumerate", "zip", "min", "max", "sum", "abs", "sorted", "reversed", "int", "str", "bool", "list",
    "tuple", "dict", "set", "isinstance", "iter", "ord", "repr", "any", "all", "divmod", "ValueError", "KeyError",
    "property", "staticmethod", "NotImplemented", "True", "False", "None"}
OF_PYTHON = {name for name in dir(builtins) if not name.startswith("_")}
TAKE_LISTS = {"any", "all", "min", "max", "sum", "sorted"}
BARRED = (ast.AsyncFunctionDef, ast.Global, ast.Import, ast.Div, ast.TryStar)


def bound_names(tree):
    """All names that the code gives a meaning."""
    for node in ast.walk(tree):
        if isinstance(node, (ast.FunctionDef, ast.ClassDef)):
            yield node.name
        elif isinstance(node, ast.arg):
            yield node.arg
        elif isinstance(node, ast.Name) and isinstance(node.ctx, ast.Store):
            yield node.id


class Language(unittest.TestCase):
    def test_the_folder_holds_plain_files_alone(self):
        names = {path.name for path in PACKAGE.iterdir()} - {"__pycache__"}
        self.assertEqual(names, {path.name for path in FILES})
        self.assertIn("__init__.py", names)

    def test_sizes_and_characters(self):
        for path in FILES:
            lines = path.read_text().split("\n")
            self.assertLessEqual(len(lines), 400, path.name)
            for line in lines:
                self.assertLessEqual(len(line), 120, path.name)
                self.assertTrue(all(" " <= sign <= "~" for sign in line), path.name)
            for node in ast.walk(ast.parse(path.read_text())):
                if isinstance(node, ast.FunctionDef):
                    self.assertLessEqual(node.end_lineno - node.lineno + 1, 40, node.name)

    def test_imports_name_the_file_that_defines(self):
        for path in FILES:
            tree = ast.parse(path.read_text())
            for node in tree.body:
                if isinstance(node, ast.ImportFrom):
                    names = {alias.name for alias in node.names}
                    self.assertEqual(node.level, 0)
                    self.assertTrue(all(alias.asname is None for alias in node.names))
                    if node.module in LIBRARY:
                        self.assertLessEqual(names, LIBRARY[node.module])
                    else:
                        self.assertTrue(node.module.startswith("poleribbons."), path.name)
                        source = (PACKAGE / (node.module.split(".")[1] + ".py")).read_text()
                        self.assertLessEqual(names, set(bound_names(ast.parse(source))))

    def test_what_is_not_used(self):
        for path in FILES:
            for node in ast.walk(ast.parse(path.read_text())):
                self.assertNotIsInstance(node, BARRED, path.name)
                if isinstance(node, ast.Constant):
                    self.assertNotIsInstance(node.value, float)
                if isinstance(node, ast.Name) and node.id in OF_PYTHON:
                    self.assertIn(node.id, BUILTINS, path.name)
                if isinstance(node, ast.Call) and isinstance(node.func, ast.Name) and node.func.id in TAKE_LISTS:
                    self.assertFalse(any(isinstance(part, ast.GeneratorExp) for part in node.args), path.name)

    def test_no_file_imports_from_one_that_imports_from_it(self):
        imports = {}
        for path in FILES:
            found = [node.module for node in ast.parse(path.read_text()).body if isinstance(node, ast.ImportFrom)]
            imports[path.stem] = {name.split(".")[1] for name in found if name.startswith("poleribbons.")}
        while imports:
            free = [name for name in imports if not imports[name] & set(imports)]
            self.assertNotEqual(free, [])
            imports = {name: imports[name] for name in imports if name not in free}

    def test_powers_and_sorting_in_place_are_not_used(self):
        for path in FILES:
            for node in ast.walk(ast.parse(path.read_text())):
                self.assertNotIsInstance(node, ast.Pow, path.name)
                if isinstance(node, ast.Attribute):
                    self.assertNotEqual(node.attr, "sort", path.name)

    def test_no_name_is_that_of_a_builtin_or_an_import(self):
        for path in FILES:
            tree = ast.parse(path.read_text())
            imported = {alias.name for node in tree.body if isinstance(node, ast.ImportFrom) for alias in node.names}
            for name in bound_names(tree):
                self.assertNotIn(name, OF_PYTHON)
                self.assertNotIn(name, imported)

    def test_properties_have_names_of_their_own(self):
        properties, methods = set(), set()
        for path in FILES:
            for node in ast.walk(ast.parse(path.read_text())):
                for part in node.body if isinstance(node, ast.ClassDef) else []:
                    if isinstance(part, ast.FunctionDef):
                        marked = [mark.id for mark in part.decorator_list]
                        (properties if "property" in marked else methods).add(part.name)
        self.assertEqual(properties & methods, set())


if __name__ == "__main__":
    unittest.main()
