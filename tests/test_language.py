"""Some of the rules by which the package is written, as far as they can be told from the code alone."""

import ast
import builtins
import unittest
from pathlib import Path

PACKAGE = Path(__file__).resolve().parent.parent / "poleribbons"
FILES = sorted(PACKAGE.glob("*.py"))
LIBRARY = {"math": {"gcd", "lcm", "isqrt", "comb", "perm", "factorial"}}
BUILTINS = {
    "len", "range", "enumerate", "zip", "min", "max", "sum", "abs", "sorted", "reversed", "int", "str", "bool", "list",
    "tuple", "dict", "set", "isinstance", "iter", "ord", "repr", "any", "all", "divmod", "ValueError", "KeyError",
    "property", "staticmethod", "NotImplemented", "True", "False", "None"}
OF_PYTHON = {name for name in dir(builtins) if not name.startswith("_")}
TAKE_LISTS = {"any", "all", "min", "max", "sum", "sorted"}
WALKS = {"enumerate", "zip", "reversed"}
VIEWS = {"items", "keys", "values"}
CHANGING = {"append", "clear", "extend", "insert", "pop", "remove", "reverse", "setdefault", "update"}
BARRED = (ast.AsyncFunctionDef, ast.Global, ast.Import, ast.Div, ast.TryStar)


def bound_names(tree):
    """All names that the code gives a meaning."""
    for node in ast.walk(tree):
        if isinstance(node, (ast.FunctionDef, ast.ClassDef)):
            yield node.name
        elif isinstance(node, ast.arg):
            yield node.arg
        elif isinstance(node, ast.Name) and isinstance(node.ctx, ast.Store):
            yield node.id


def row_of(node):
    """The name or attribute that is read, behind indexes and in choices, as a set of texts."""
    if isinstance(node, ast.IfExp):
        return row_of(node.body) | row_of(node.orelse)
    if isinstance(node, ast.BoolOp):
        return set().union(*[row_of(part) for part in node.values])
    if isinstance(node, ast.Call) and isinstance(node.func, ast.Name) and node.func.id in WALKS:
        return set().union(*[row_of(part) for part in node.args])
    if isinstance(node, ast.Call) and isinstance(node.func, ast.Attribute) and node.func.attr in VIEWS:
        return row_of(node.func.value)
    if isinstance(node, ast.Subscript):
        return row_of(node.value)
    return {ast.unparse(node)} if isinstance(node, (ast.Name, ast.Attribute)) else set()


def changed_in(nodes):
    """The texts of all that is changed by a method, an item or `del` in these nodes."""
    found = set()
    for node in [part for start in nodes for part in ast.walk(start)]:
        if isinstance(node, ast.Call) and isinstance(node.func, ast.Attribute) and node.func.attr in CHANGING:
            found |= row_of(node.func.value)
        if isinstance(node, ast.Subscript) and not isinstance(node.ctx, ast.Load):
            found |= row_of(node)
    return found


def names_of_one_list(function):
    """The dict from each text to all that may mean the same list by plain assignments."""
    groups = {}
    for node in ast.walk(function):
        if isinstance(node, ast.Assign):
            group = row_of(node.value) if not isinstance(node.value, (ast.Call, ast.Subscript)) else set()
            for target in node.targets:
                group = group | row_of(target) if isinstance(target, (ast.Name, ast.Attribute)) else group
            for text in list(group):
                group = group | groups.get(text, set())
            groups.update({text: group for text in group})
    return groups


class Language(unittest.TestCase):
    def test_the_folder_holds_plain_files_alone(self):
        names = {path.name for path in PACKAGE.iterdir()} - {"__pycache__"}
        self.assertEqual(names, {path.name for path in FILES})
        self.assertIn("__init__.py", names)

    def test_sizes_and_characters(self):
        for path in FILES:
            lines = path.read_text().split("\n")
            self.assertLessEqual(len(lines), 400, path.name)
            for line in lines:
                self.assertLessEqual(len(line), 120, path.name)
                self.assertTrue(all(" " <= sign <= "~" for sign in line), path.name)
            for node in ast.walk(ast.parse(path.read_text())):
                if isinstance(node, ast.FunctionDef):
                    self.assertLessEqual(node.end_lineno - node.lineno + 1, 40, node.name)

    def test_imports_name_the_file_that_defines(self):
        for path in FILES:
            tree = ast.parse(path.read_text())
            for node in tree.body:
                if isinstance(node, ast.ImportFrom):
                    names = {alias.name for alias in node.names}
                    self.assertEqual(node.level, 0)
                    self.assertTrue(all(alias.asname is None for alias in node.names))
                    if node.module in LIBRARY:
                        self.assertLessEqual(names, LIBRARY[node.module])
                    else:
                        self.assertTrue(node.module.startswith("poleribbons."), path.name)
                        source = (PACKAGE / (node.module.split(".")[1] + ".py")).read_text()
                        self.assertLessEqual(names, set(bound_names(ast.parse(source))))

    def test_what_is_not_used(self):
        for path in FILES:
            for node in ast.walk(ast.parse(path.read_text())):
                self.assertNotIsInstance(node, BARRED, path.name)
                if isinstance(node, ast.Constant):
                    self.assertNotIsInstance(node.value, float)
                if isinstance(node, ast.Name) and node.id in OF_PYTHON:
                    self.assertIn(node.id, BUILTINS, path.name)
                if isinstance(node, ast.Call) and isinstance(node.func, ast.Name) and node.func.id in TAKE_LISTS:
                    self.assertFalse(any(isinstance(part, ast.GeneratorExp) for part in node.args), path.name)

    def test_no_file_imports_from_one_that_imports_from_it(self):
        imports = {}
        for path in FILES:
            found = [node.module for node in ast.parse(path.read_text()).body if isinstance(node, ast.ImportFrom)]
            imports[path.stem] = {name.split(".")[1] for name in found if name.startswith("poleribbons.")}
        while imports:
            free = [name for name in imports if not imports[name] & set(imports)]
            self.assertNotEqual(free, [])
            imports = {name: imports[name] for name in imports if name not in free}

    def test_powers_and_sorting_in_place_are_not_used(self):
        for path in FILES:
            for node in ast.walk(ast.parse(path.read_text())):
                self.assertNotIsInstance(node, ast.Pow, path.name)
                if isinstance(node, ast.Attribute):
                    self.assertNotEqual(node.attr, "sort", path.name)

    def test_no_name_is_that_of_a_builtin_or_an_import(self):
        for path in FILES:
            tree = ast.parse(path.read_text())
            imported = {alias.name for node in tree.body if isinstance(node, ast.ImportFrom) for alias in node.names}
            for name in bound_names(tree):
                self.assertNotIn(name, OF_PYTHON)
                self.assertNotIn(name, imported)

    def test_properties_have_names_of_their_own(self):
        properties, methods = set(), set()
        for path in FILES:
            for node in ast.walk(ast.parse(path.read_text())):
                for part in node.body if isinstance(node, ast.ClassDef) else []:
                    if isinstance(part, ast.FunctionDef):
                        marked = [mark.id for mark in part.decorator_list]
                        (properties if "property" in marked else methods).add(part.name)
        self.assertEqual(properties & methods, set())

    def test_no_loop_changes_what_it_walks(self):
        for path in FILES:
            for function in ast.walk(ast.parse(path.read_text())):
                if isinstance(function, ast.FunctionDef):
                    groups = names_of_one_list(function)
                    for loop in ast.walk(function):
                        if isinstance(loop, ast.For):
                            walked = row_of(loop.iter)
                            walked = walked.union(*[groups.get(text, set()) for text in walked])
                            self.assertEqual(walked & changed_in(loop.body), set(), (path.name, loop.lineno))


if __name__ == "__main__":
    unittest.main()
