"""What ../shared/LANGUAGE.md asks of the package's files, as far as it can be seen in short."""

import ast
import builtins
import os
import unittest

FOLDER = os.path.join(os.path.dirname(os.path.dirname(os.path.abspath(__file__))), "holekinds")
FILES = sorted(one for one in os.listdir(FOLDER) if one != "__pycache__")
BUILTINS = {
    "len", "range", "enumerate", "zip", "min", "max", "sum", "abs", "sorted", "reversed", "int",
    "str", "bool", "list", "tuple", "dict", "set", "isinstance", "ord", "any", "all", "divmod",
    "type", "super", "ValueError", "KeyError"}
STATEMENTS = (
    ast.Assign, ast.AugAssign, ast.If, ast.While, ast.For, ast.Return, ast.Break, ast.Continue,
    ast.Pass, ast.Raise, ast.Try, ast.Expr, ast.FunctionDef, ast.ClassDef, ast.ImportFrom)


def text_of(file):
    with open(os.path.join(FOLDER, file), encoding="utf-8") as held:
        return held.read()


def names_bound(tree):
    """Every name that a file binds somewhere."""
    bound = set()
    for node in ast.walk(tree):
        if isinstance(node, (ast.FunctionDef, ast.ClassDef)):
            bound.add(node.name)
        elif isinstance(node, ast.ImportFrom):
            bound.update(one.name for one in node.names)
        elif isinstance(node, ast.arg):
            bound.add(node.arg)
        elif isinstance(node, ast.Name) and isinstance(node.ctx, ast.Store):
            bound.add(node.id)
    return bound


class TestLanguage(unittest.TestCase):
    def test_the_package_holds_plain_files_alone(self):
        self.assertIn("__init__.py", FILES)
        for file in FILES:
            self.assertRegex(file, r"^(__init__|[a-z][a-z0-9_]*)\.py$")

    def test_sizes_and_signs(self):
        for file in FILES:
            lines = text_of(file).split("\n")
            self.assertLessEqual(len(lines), 399, file)
            for line in lines:
                self.assertLessEqual(len(line), 120, file)
                self.assertRegex(line, r"^[ -~]*$", file)

    def test_functions_are_short(self):
        for file in FILES:
            for node in ast.walk(ast.parse(text_of(file))):
                if isinstance(node, ast.FunctionDef):
                    self.assertLessEqual(node.end_lineno - node.lineno + 1, 40, node.name)

    def test_imports_name_the_package_alone(self):
        for file in FILES:
            for node in ast.walk(ast.parse(text_of(file))):
                self.assertNotIsInstance(node, ast.Import, file)
                if isinstance(node, ast.ImportFrom):
                    self.assertEqual((node.module or "").split(".")[0], "holekinds", file)
                    self.assertEqual(node.level, 0, file)
                    self.assertTrue(all(one.asname is None and one.name != "*" for one in node.names))

    def test_statements_and_values(self):
        for file in FILES:
            for node in ast.walk(ast.parse(text_of(file))):
                if isinstance(node, ast.stmt):
                    self.assertIsInstance(node, STATEMENTS, file)
                if isinstance(node, ast.Constant):
                    self.assertNotIsInstance(node.value, (float, complex), file)
                if isinstance(node, (ast.FunctionDef, ast.ClassDef)):
                    self.assertEqual(node.decorator_list, [], file)
                self.assertNotIsInstance(node, (ast.Div, ast.GeneratorExp, ast.NamedExpr), file)

    def test_builtins(self):
        for file in FILES:
            tree = ast.parse(text_of(file))
            bound = names_bound(tree)
            self.assertEqual(bound & set(dir(builtins)), set(), file)
            read = {node.id for node in ast.walk(tree) if isinstance(node, ast.Name)}
            self.assertLessEqual(read - bound, BUILTINS, file)


if __name__ == "__main__":
    unittest.main()
