"""The sizes and characters that the package keeps to in every file."""

import ast
import pathlib
import unittest

PACKAGE = pathlib.Path(__file__).resolve().parent.parent / "tracerline"
LIBRARY = {"heapq", "math", "itertools", "collections", "__future__"}
PASSING = {"zip", "enumerate", "reversed", "range", "map"}
VIEWS = {"items", "keys", "values"}
TAKING = {"list", "tuple", "dict", "sorted", "sum", "any", "all", "enumerate", "zip", "bytes"}


def sources():
    return sorted(PACKAGE.rglob("*.py"))


def is_passing(node):
    """Whether the node is a call of zip and the like, or one of a view of a dict."""
    if not isinstance(node, ast.Call):
        return False
    called = node.func
    return (isinstance(called, ast.Name) and called.id in PASSING) or (
        isinstance(called, ast.Attribute) and called.attr in VIEWS)


def iterated_in(node):
    """What the node iterates over on the spot."""
    if isinstance(node, (ast.For, ast.comprehension)):
        return [node.iter]
    if isinstance(node, ast.Call) and isinstance(node.func, ast.Name) and node.func.id in TAKING:
        return node.args
    return []


def kept_passing(tree):
    """The calls of zip and the like that are not iterated where they stand."""
    nodes = list(ast.walk(tree))
    iterated = [part for node in nodes for part in iterated_in(node)]
    return [ast.unparse(node) for node in nodes if is_passing(node) and node not in iterated]


class Source(unittest.TestCase):
    def test_the_folder_contains_python_files_only(self):
        files = [path for path in PACKAGE.rglob("*") if path.is_file() and "__pycache__" not in path.parts]
        self.assertEqual(sorted(files), sources())
        self.assertIn(PACKAGE / "__init__.py", files)

    def test_sizes_and_characters(self):
        for path in sources():
            lines = path.read_text(encoding="utf-8").removesuffix("\n").split("\n")
            self.assertLess(len(lines), 400, path)
            for line in lines:
                self.assertLessEqual(len(line), 120, (path, line))
                self.assertTrue(all(" " <= character <= "~" for character in line), (path, line))

    def test_functions_have_at_most_40_lines(self):
        for path in sources():
            for node in ast.walk(ast.parse(path.read_text(encoding="utf-8"))):
                if isinstance(node, ast.FunctionDef):
                    self.assertLess(node.end_lineno - node.lineno, 40, (path, node.name))

    def test_imports(self):
        for path in sources():
            for node in ast.walk(ast.parse(path.read_text(encoding="utf-8"))):
                self.assertNotIsInstance(node, ast.Import, path)
                if isinstance(node, ast.ImportFrom):
                    self.assertEqual(node.level, 0, path)
                    self.assertTrue(node.module.startswith("tracerline.") or node.module in LIBRARY, path)

    def test_what_passes_is_iterated_where_it_stands(self):
        for path in sources():
            self.assertEqual(kept_passing(ast.parse(path.read_text(encoding="utf-8"))), [], path)
        self.assertEqual(kept_passing(ast.parse("pairs = zip(ones, twos)")), ["zip(ones, twos)"])
        self.assertEqual(kept_passing(ast.parse("rows = found.items()")), ["found.items()"])
        self.assertEqual(kept_passing(ast.parse("pairs = list(zip(ones, twos))")), [])

    def test_what_a_call_returns_is_not_called_at_once(self):
        for path in sources():
            for node in ast.walk(ast.parse(path.read_text(encoding="utf-8"))):
                if isinstance(node, ast.Call):
                    self.assertNotIsInstance(node.func, ast.Call, (path, node.lineno))


if __name__ == "__main__":
    unittest.main()
