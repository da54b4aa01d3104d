"""The plainest rules of the language of the package, as far as a test can tell them."""

import ast
import pathlib
import unittest

PACKAGE = pathlib.Path(__file__).resolve().parent.parent / "compasswork"
LIBRARY = {"math": {"gcd", "isqrt"}}


def files():
    return sorted(PACKAGE.glob("**/*.py"))


def trees():
    return [(path, ast.parse(path.read_text())) for path in files()]


class Files(unittest.TestCase):
    def test_size(self):
        for path in files():
            lines = path.read_text().split("\n")
            self.assertLess(len(lines), 400, path)
            self.assertLessEqual(max(len(line) for line in lines), 120, path)

    def test_signs(self):
        for path in files():
            for sign in path.read_text():
                self.assertTrue(sign == "\n" or " " <= sign <= "~", (path, sign))

    def test_no_tests_inside(self):
        for path in files():
            self.assertFalse(path.name.startswith("test"), path)


class Code(unittest.TestCase):
    def test_functions_are_short(self):
        for path, tree in trees():
            for node in ast.walk(tree):
                if isinstance(node, ast.FunctionDef):
                    self.assertLessEqual(node.end_lineno - node.lineno, 39, (path, node.name))

    def test_imports(self):
        for path, tree in trees():
            for node in ast.walk(tree):
                self.assertNotIsInstance(node, ast.Import, path)
                if isinstance(node, ast.ImportFrom) and not node.module.startswith("compasswork."):
                    self.assertLessEqual({one.name for one in node.names}, LIBRARY.get(node.module, set()), path)

    def test_integers_only(self):
        for path, tree in trees():
            for node in ast.walk(tree):
                self.assertNotIsInstance(node, (ast.Div, ast.Pow), path)
                self.assertFalse(isinstance(node, ast.Constant) and isinstance(node.value, float), path)


if __name__ == "__main__":
    unittest.main()
