"""The rules of the form that are plain to count: files, characters, sizes, imports."""

import ast
import builtins
import pathlib
import unittest

TOP = pathlib.Path(__file__).resolve().parent.parent
PACKAGE = TOP / "ownchute"
FILES = sorted(path for path in PACKAGE.rglob("*") if "__pycache__" not in path.parts and path.is_file())
LIBRARY = ("__future__", "collections", "heapq", "itertools", "math")
BUILTINS = {"len", "range", "enumerate", "zip", "min", "max", "sum", "abs", "sorted", "reversed", "int", "str", "bool",
            "list", "tuple", "dict", "set", "isinstance", "ord", "repr", "any", "all", "divmod", "ValueError",
            "LookupError", "IndexError", "property", "staticmethod"}
BARRED = {"register", "mro", "elements", "open", "input", "law", "version_info", "with_traceback", "add_note"}


class Form(unittest.TestCase):

    def trees(self):
        for path in FILES:
            with self.subTest(path.name):
                yield path, ast.parse(path.read_text(encoding="utf-8"))

    def test_package_holds_python_files_alone(self):
        self.assertIn(PACKAGE / "__init__.py", FILES)
        for path in FILES:
            self.assertEqual(path.suffix, ".py")

    def test_characters_and_sizes_of_files(self):
        for path in FILES:
            with self.subTest(path.name):
                text = path.read_bytes().decode("ascii")
                self.assertTrue(all(" " <= sign <= "~" or sign == "\n" for sign in text))
                lines = text.split("\n")
                self.assertLessEqual(len(lines), 400)
                self.assertLessEqual(max(len(line) for line in lines), 120)

    def test_sizes_of_functions(self):
        for _, tree in self.trees():
            for node in ast.walk(tree):
                if isinstance(node, ast.FunctionDef):
                    self.assertLessEqual(node.end_lineno - node.lineno + 1, 40, node.name)

    def test_imports(self):
        for _, tree in self.trees():
            for node in ast.walk(tree):
                self.assertNotIsInstance(node, ast.Import)
                if isinstance(node, ast.ImportFrom):
                    self.assertEqual(node.level, 0)
                    self.assertIn(node, tree.body)
                    self.assertIn(node.module.split(".")[0], LIBRARY + ("ownchute",))
                    self.assertNotIn("*", [name.name for name in node.names])

    def test_names(self):
        for _, tree in self.trees():
            for node in ast.walk(tree):
                if isinstance(node, ast.Name):
                    self.assertFalse(node.id in dir(builtins) and node.id not in BUILTINS, node.id)
                names = [getattr(node, part, None) for part in ("id", "attr", "arg", "name")]
                self.assertEqual([name for name in names if name in BARRED], [])
                if isinstance(node, (ast.arg, ast.FunctionDef)):
                    self.assertNotIn(names[2] or names[3], dir(builtins) if isinstance(node, ast.arg) else BUILTINS)

    def test_generator_expressions_are_not_used(self):
        for _, tree in self.trees():
            for node in ast.walk(tree):
                self.assertNotIsInstance(node, ast.GeneratorExp)

    def test_strings_have_no_percent_sign(self):
        for _, tree in self.trees():
            for node in ast.walk(tree):
                if isinstance(node, ast.Constant) and isinstance(node.value, str):
                    self.assertNotIn("%", node.value)


if __name__ == "__main__":
    unittest.main()
