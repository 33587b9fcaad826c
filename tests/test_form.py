"""The form of the package: some of the language's rules that a program can check, by their numbers."""

import ast
import builtins
import os
import unittest

PACKAGE = os.path.join(os.path.dirname(os.path.dirname(os.path.abspath(__file__))), "poolrows")

LIBRARY = {"itertools": {"accumulate", "combinations"}, "math": {"gcd", "lcm"}}
BUILTINS = {
    "len", "range", "enumerate", "zip", "min", "max", "sum", "abs", "sorted", "reversed", "int", "str", "bool", "list",
    "tuple", "dict", "set", "isinstance", "any", "all", "divmod", "super", "ValueError",
}
METHODS = {"append", "get", "index", "items", "join", "keys", "pop", "values", "__init__"}
STATEMENTS = (ast.ImportFrom, ast.FunctionDef, ast.ClassDef, ast.Assign, ast.Expr)
BARRED = (
    ast.AsyncFunctionDef, ast.Import, ast.Global, ast.Lambda, ast.Div, ast.Yield, ast.YieldFrom, ast.Await, ast.Try,
    ast.With, ast.AnnAssign,
)


def files():
    """Return the package's files with their texts and trees."""
    found = []
    for name in sorted(os.listdir(PACKAGE)):
        if name != "__pycache__":
            with open(os.path.join(PACKAGE, name), encoding="utf-8") as file:
                text = file.read()
            found.append((name, text, ast.parse(text)))
    return found


def parts(kind):
    """Return all parts of that kind, each with its file's name."""
    return [(name, part) for name, _, tree in files() for part in ast.walk(tree) if isinstance(part, kind)]


class FormTest(unittest.TestCase):
    def test_files(self):
        """L1, L10, L14"""
        for name, text, _ in files():
            self.assertRegex(name, "^[a-z_]+[.]py$")
            lines = text.split("\n")
            self.assertLess(len(lines), 400, name)
            for line in lines:
                self.assertLessEqual(len(line), 120, name)
                self.assertTrue(line.isascii() and "\t" not in line and "\r" not in line, name)

    def test_functions(self):
        """L4, L10"""
        for name, part in parts(ast.FunctionDef):
            self.assertLessEqual(part.end_lineno - part.lineno + 1, 40, (name, part.name))
            self.assertEqual(part.decorator_list, [], (name, part.name))

    def test_imports(self):
        """L2, L16"""
        for name, part in parts(ast.ImportFrom):
            self.assertEqual(part.level, 0, name)
            if not part.module.startswith("poolrows."):
                self.assertLessEqual({alias.name for alias in part.names}, LIBRARY[part.module], name)
            self.assertTrue(all(alias.asname is None for alias in part.names), name)

    def test_module_level(self):
        """L3"""
        for name, _, tree in files():
            for part in tree.body:
                self.assertIsInstance(part, STATEMENTS, name)
                if isinstance(part, ast.Expr):
                    self.assertIsInstance(part.value, ast.Constant, name)

    def test_statements(self):
        """L6, L7"""
        self.assertEqual([(name, part.lineno) for name, part in parts(BARRED)], [])
        for name, part in parts(ast.Constant):
            self.assertNotIsInstance(part.value, (float, complex), name)

    def test_builtins(self):
        """L8, L15, L17"""
        for name, part in parts(ast.Name):
            if part.id in dir(builtins):
                self.assertIn(part.id, BUILTINS, (name, part.lineno))
                self.assertIsInstance(part.ctx, ast.Load, (name, part.lineno))
        for name, part in parts((ast.FunctionDef, ast.arg)):
            own = part.name if isinstance(part, ast.FunctionDef) else part.arg
            self.assertNotIn(own, dir(builtins), (name, part.lineno))

    def test_functions_of_the_library(self):
        """L2"""
        words = {word for known in LIBRARY.values() for word in known}
        called = {(name, part.func.lineno, part.func.col_offset) for name, part in parts(ast.Call)}
        for name, part in parts(ast.Name):
            if part.id in words and (name, part.lineno, part.col_offset) not in called:
                self.fail((name, part.lineno, part.id))

    def test_modules_do_not_import_each_other(self):
        """L16"""
        imports = {}
        for name, part in parts(ast.ImportFrom):
            imports.setdefault("poolrows." + name[:-3], set()).add(part.module)
        while imports:
            free = [name for name in imports if not any(other in imports for other in imports[name])]
            self.assertNotEqual(free, [], imports)
            imports = {name: others for name, others in imports.items() if name not in free}

    def test_methods(self):
        """L25"""
        for name, part in parts(ast.Call):
            if isinstance(part.func, ast.Attribute):
                self.assertIn(part.func.attr, METHODS, (name, part.lineno))


if __name__ == "__main__":
    unittest.main()
