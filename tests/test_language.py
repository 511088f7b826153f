"""Some rules of the Python subset, those that can be told plainly from the code."""

import ast
import os
import unittest

FOLDER = os.path.join(os.path.dirname(os.path.dirname(os.path.abspath(__file__))), "bookplaces")
BUILTINS = set(
    "len range enumerate zip min max sum abs sorted reversed int str bool list tuple dict set isinstance ord repr any"
    " all divmod pow getattr hasattr setattr iter next map type super Exception ValueError TypeError KeyError IndexError"
    " LookupError ZeroDivisionError ArithmeticError OverflowError RuntimeError NotImplementedError StopIteration"
    " NotImplemented property staticmethod classmethod".split()
)
LIBRARY = ("heapq", "math", "itertools", "collections")
BARRED = (ast.AsyncFunctionDef, ast.Await, ast.Import, ast.Div)


def files():
    return sorted([name for name in os.listdir(FOLDER) if name != "__pycache__"])


def text_of(name):
    with open(os.path.join(FOLDER, name), encoding="utf-8") as file:
        return file.read()


def nodes():
    for name in files():
        for node in ast.walk(ast.parse(text_of(name))):
            yield name, node


class Files(unittest.TestCase):
    def test_folder_has_python_files_alone(self):
        self.assertIn("__init__.py", files())
        for name in files():
            self.assertTrue(name.endswith(".py") and name == name.lower(), name)

    def test_signs_and_sizes(self):
        for name in files():
            text = text_of(name)
            self.assertTrue(all(sign == "\n" or " " <= sign <= "~" for sign in text), name)
            self.assertLessEqual(len(text.split("\n")) - 1, 399, name)
            self.assertLessEqual(max(len(line) for line in text.split("\n")), 120, name)


class Code(unittest.TestCase):
    def test_functions_are_short(self):
        for name, node in nodes():
            if isinstance(node, ast.FunctionDef):
                self.assertLessEqual(node.end_lineno - node.lineno + 1, 40, f"{name}: {node.name}")

    def test_barred_statements_and_values(self):
        for name, node in nodes():
            self.assertNotIsInstance(node, BARRED, f"{name}: {getattr(node, 'lineno', 0)}")
            if isinstance(node, ast.Constant):
                self.assertNotIsInstance(node.value, (float, complex), name)

    def test_imports_are_of_the_package_or_the_library(self):
        for name, node in nodes():
            if isinstance(node, ast.ImportFrom):
                self.assertEqual(node.level, 0, name)
                self.assertTrue(node.module.startswith("bookplaces.") or node.module in LIBRARY, node.module)
                self.assertNotIn("*", [alias.name for alias in node.names], name)

    def test_only_these_builtins(self):
        here = set(dir(__builtins__) if not isinstance(__builtins__, dict) else __builtins__)
        for name, node in nodes():
            if isinstance(node, ast.Name) and node.id in here:
                self.assertIn(node.id, BUILTINS, f"{name}: {node.lineno}")
                self.assertIsInstance(node.ctx, ast.Load, f"{name}: {node.lineno}")

    def test_no_parameter_hides_a_builtin_or_a_class(self):
        classes = set(node.name for _, node in nodes() if isinstance(node, ast.ClassDef))
        for name, node in nodes():
            if isinstance(node, ast.arg):
                self.assertNotIn(node.arg, BUILTINS | classes, f"{name}: {node.lineno}")

    def test_no_sort_and_no_generator_expression(self):
        # Where a class has `__eq__`, lists are sorted by `sorted`, and `any`, `all` and their kin take lists.
        for name, node in nodes():
            self.assertNotIsInstance(node, ast.GeneratorExp, f"{name}: {getattr(node, 'lineno', 0)}")
            if isinstance(node, ast.Attribute):
                self.assertNotEqual(node.attr, "sort", f"{name}: {node.lineno}")

    def test_no_parameter_or_variable_has_the_name_of_an_import(self):
        for name in files():
            tree = list(ast.walk(ast.parse(text_of(name))))
            taken = {alias.name for node in tree if isinstance(node, ast.ImportFrom) for alias in node.names}
            for node in tree:
                if isinstance(node, ast.arg):
                    self.assertNotIn(node.arg, taken, f"{name}: {node.lineno}")
                if isinstance(node, ast.Name) and isinstance(node.ctx, ast.Store):
                    self.assertNotIn(node.id, taken, f"{name}: {node.lineno}")

    def test_no_percent_in_strings(self):
        for name, node in nodes():
            if isinstance(node, ast.Constant) and isinstance(node.value, str):
                self.assertNotIn(chr(37), node.value, f"{name}: {node.lineno}")


if __name__ == "__main__":
    unittest.main()
