"""What ../shared/LANGUAGE.md asks of the package's files, as far as it can be seen in short."""

import ast
import builtins
import os
import unittest

FOLDER = os.path.join(os.path.dirname(os.path.dirname(os.path.abspath(__file__))), "holekinds")
FILES = sorted(one for one in os.listdir(FOLDER) if one != "__pycache__")
BUILTINS = {
    "len", "range", "enumerate", "zip", "min", "max", "sum", "abs", "sorted", "reversed", "int",
    "str", "bool", "list", "tuple", "dict", "set", "isinstance", "ord", "any", "all", "divmod",
    "type", "super", "ValueError", "KeyError"}
STATEMENTS = (
    ast.Assign, ast.AugAssign, ast.If, ast.While, ast.For, ast.Return, ast.Break, ast.Continue,
    ast.Pass, ast.Raise, ast.Try, ast.Expr, ast.FunctionDef, ast.ClassDef, ast.ImportFrom)


METHODS = {
    "append", "count", "extend", "find", "get", "items", "join", "partition", "pop", "rfind", "rpartition", "split"}
BARRED = {
    "mro", "elements", "open", "input", "law", "register", "compile", "copyright", "credits", "dir", "eval",
    "exec", "exit", "gc", "globals", "help", "id", "license", "locals", "os", "quit", "sys", "vars", "sort",
    "format", "args", "encode", "decode", "hex", "fromhex"}


def text_of(file):
    with open(os.path.join(FOLDER, file), encoding="utf-8") as held:
        return held.read()


def names_bound(tree):
    """Every name that a file binds somewhere."""
    bound = set()
    for node in ast.walk(tree):
        if isinstance(node, (ast.FunctionDef, ast.ClassDef)):
            bound.add(node.name)
        elif isinstance(node, ast.ImportFrom):
            bound.update(one.name for one in node.names)
        elif isinstance(node, ast.arg):
            bound.add(node.arg)
        elif isinstance(node, ast.ExceptHandler) and node.name is not None:
            bound.add(node.name)
        elif isinstance(node, ast.Name) and isinstance(node.ctx, ast.Store):
            bound.add(node.id)
    return bound


def names_inside(tree):
    """Every parameter and every variable of a function."""
    told = {node.arg for node in ast.walk(tree) if isinstance(node, ast.arg)}
    for function in ast.walk(tree):
        if isinstance(function, ast.FunctionDef):
            told.update(
                node.id for node in ast.walk(function)
                if isinstance(node, ast.Name) and isinstance(node.ctx, ast.Store))
    return told


class TestLanguage(unittest.TestCase):
    def test_the_package_holds_plain_files_alone(self):
        self.assertIn("__init__.py", FILES)
        for file in FILES:
            self.assertRegex(file, r"^(__init__|[a-z][a-z0-9_]*)\.py$")

    def test_sizes_and_signs(self):
        for file in FILES:
            lines = text_of(file).split("\n")
            self.assertLessEqual(len(lines), 399, file)
            for line in lines:
                self.assertLessEqual(len(line), 120, file)
                self.assertRegex(line, r"^[ -~]*$", file)

    def test_functions_are_short(self):
        for file in FILES:
            for node in ast.walk(ast.parse(text_of(file))):
                if isinstance(node, ast.FunctionDef):
                    self.assertLessEqual(node.end_lineno - node.lineno + 1, 40, node.name)

    def test_imports_name_the_package_alone(self):
        for file in FILES:
            for node in ast.walk(ast.parse(text_of(file))):
                self.assertNotIsInstance(node, ast.Import, file)
                if isinstance(node, ast.ImportFrom):
                    self.assertEqual((node.module or "").split(".")[0], "holekinds", file)
                    self.assertEqual(node.level, 0, file)
                    self.assertTrue(all(one.asname is None and one.name != "*" for one in node.names))

    def test_statements_and_values(self):
        for file in FILES:
            for node in ast.walk(ast.parse(text_of(file))):
                if isinstance(node, ast.stmt):
                    self.assertIsInstance(node, STATEMENTS, file)
                if isinstance(node, ast.Constant):
                    self.assertNotIsInstance(node.value, (float, complex), file)
                if isinstance(node, (ast.FunctionDef, ast.ClassDef)):
                    self.assertEqual(node.decorator_list, [], file)
                self.assertNotIsInstance(node, (ast.Div, ast.GeneratorExp, ast.NamedExpr), file)

    def test_builtins(self):
        for file in FILES:
            tree = ast.parse(text_of(file))
            bound = names_bound(tree)
            self.assertEqual((bound - {"_"}) & set(dir(builtins)), set(), file)
            read = {node.id for node in ast.walk(tree) if isinstance(node, ast.Name)}
            self.assertLessEqual(read - bound, BUILTINS, file)

    def test_no_variable_has_the_name_of_an_import_or_a_class(self):
        for file in FILES:
            tree = ast.parse(text_of(file))
            taken = {node.name for node in ast.walk(tree) if isinstance(node, ast.ClassDef)}
            for node in ast.walk(tree):
                if isinstance(node, ast.ImportFrom):
                    taken.update(one.name for one in node.names)
            self.assertEqual(names_inside(tree) & taken, set(), file)

    def test_imports_name_the_file_that_defines_the_name_and_lead_in_no_circle(self):
        leads = {}
        for file in FILES:
            leads[file] = set()
            for node in ast.walk(ast.parse(text_of(file))):
                if isinstance(node, ast.ImportFrom):
                    there = node.module.split(".")[1] + ".py"
                    leads[file].add(there)
                    tops = ast.parse(text_of(there)).body
                    bound = {one.name for one in tops if isinstance(one, (ast.FunctionDef, ast.ClassDef))}
                    bound.update(one.targets[0].id for one in tops if isinstance(one, ast.Assign))
                    self.assertLessEqual({one.name for one in node.names}, bound, file)
        for _ in FILES:
            leads = {file: there.union(*[leads[one] for one in there]) for file, there in leads.items()}
        self.assertEqual([file for file in FILES if file in leads[file]], [])

    def test_names_methods_and_attributes(self):
        trees = [ast.parse(text_of(file)) for file in FILES]
        own = {
            one.name for tree in trees for node in ast.walk(tree) if isinstance(node, ast.ClassDef)
            for one in node.body if isinstance(one, ast.FunctionDef)}
        for file, tree in zip(FILES, trees):
            self.assertEqual(names_bound(tree) & BARRED, set(), file)
            for node in ast.walk(tree):
                if isinstance(node, ast.Attribute):
                    self.assertNotIn(node.attr, BARRED, file)
                if isinstance(node, ast.Call) and isinstance(node.func, ast.Attribute):
                    self.assertIn(node.func.attr, METHODS | own, file)
                if isinstance(node, ast.Call) and isinstance(node.func, ast.Name) and node.func.id in BUILTINS:
                    self.assertLessEqual({one.arg for one in node.keywords}, {"key", "reverse"}, file)

    def test_is_stands_beside_none_alone(self):
        for file in FILES:
            for node in ast.walk(ast.parse(text_of(file))):
                if isinstance(node, ast.Compare) and isinstance(node.ops[0], (ast.Is, ast.IsNot)):
                    self.assertEqual([one.value for one in node.comparators], [None], file)

    def test_texts(self):
        for file in FILES:
            for node in ast.walk(ast.parse(text_of(file))):
                if isinstance(node, ast.Constant) and isinstance(node.value, str):
                    self.assertNotIn("%", node.value, file)
                    self.assertFalse(node.value.startswith("__"), file)

    def test_what_stands_at_a_file_s_top(self):
        for file in FILES:
            defined = set()
            for node in ast.parse(text_of(file)).body:
                self.assertIsInstance(node, (ast.Expr, ast.ImportFrom, ast.FunctionDef, ast.ClassDef, ast.Assign))
                if isinstance(node, (ast.FunctionDef, ast.ClassDef)):
                    defined.add(node.name)
                if isinstance(node, ast.Assign):
                    self.assertNotIsInstance(node.value, (ast.List, ast.Set, ast.Call), file)
                if isinstance(node, ast.Assign) and isinstance(node.value, ast.Dict):
                    # A dict has plain values, or functions that are defined ahead of it.
                    for key, worth in zip(node.value.keys, node.value.values):
                        self.assertIsInstance(key, ast.Constant, file)
                        self.assertIsInstance(worth, (ast.Constant, ast.Name), file)
                        if isinstance(worth, ast.Name):
                            self.assertIn(worth.id, defined, file)

    def test_each_import_is_used(self):
        for file in FILES:
            tree = ast.parse(text_of(file))
            read = {node.id for node in ast.walk(tree) if isinstance(node, ast.Name)}
            for node in ast.walk(tree):
                if isinstance(node, ast.ImportFrom):
                    self.assertLessEqual({one.name for one in node.names}, read, file)

    def test_each_name_is_bound_once_at_a_file_s_top(self):
        for file in FILES:
            bound = []
            for node in ast.parse(text_of(file)).body:
                if isinstance(node, (ast.FunctionDef, ast.ClassDef)):
                    bound.append(node.name)
                elif isinstance(node, ast.ImportFrom):
                    bound.extend(one.name for one in node.names)
                elif isinstance(node, ast.Assign):
                    bound.append(node.targets[0].id)
            self.assertEqual(len(bound), len(set(bound)), file)

    def test_no_name_is_a_method_and_an_attribute(self):
        methods, attributes = set(), set()
        for file in FILES:
            for node in ast.walk(ast.parse(text_of(file))):
                if isinstance(node, ast.ClassDef):
                    methods.update(one.name for one in node.body if isinstance(one, ast.FunctionDef))
                if isinstance(node, ast.Attribute) and isinstance(node.ctx, ast.Store):
                    self.assertIsInstance(node.value, ast.Name, file)
                    attributes.add(node.attr)
        self.assertEqual(methods & attributes, set())
        self.assertEqual(attributes & (METHODS - {"count", "find", "get", "join", "split"}), set())

    def test_what_a_caught_error_is_asked(self):
        for file in FILES:
            for node in ast.walk(ast.parse(text_of(file))):
                if isinstance(node, ast.ExceptHandler):
                    self.assertIsInstance(node.type, ast.Name, file)
                    self.assertTrue(node.type.id.startswith(("Invalid", "HoleError")), file)
                    asked = {id(one.value) for one in ast.walk(node) if isinstance(one, ast.Attribute)}
                    for one in ast.walk(node):
                        if isinstance(one, ast.Name) and one.id == node.name:
                            self.assertIn(id(one), asked, file)

    def test_what_is_assigned_to_no_use_is_not_read(self):
        for file in FILES:
            for node in ast.walk(ast.parse(text_of(file))):
                if isinstance(node, ast.Name) and node.id == "_":
                    self.assertIsInstance(node.ctx, ast.Store, file)


if __name__ == "__main__":
    unittest.main()
