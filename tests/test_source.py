"""The sizes and characters that the package keeps to in every file."""

import ast
import pathlib
import unittest

PACKAGE = pathlib.Path(__file__).resolve().parent.parent / "tracerline"
LIBRARY = {"heapq", "math", "itertools", "collections", "__future__"}


def sources():
    return sorted(PACKAGE.rglob("*.py"))


class Source(unittest.TestCase):
    def test_the_folder_contains_python_files_only(self):
        files = [path for path in PACKAGE.rglob("*") if path.is_file() and "__pycache__" not in path.parts]
        self.assertEqual(sorted(files), sources())
        self.assertIn(PACKAGE / "__init__.py", files)

    def test_sizes_and_characters(self):
        for path in sources():
            lines = path.read_text(encoding="utf-8").removesuffix("\n").split("\n")
            self.assertLess(len(lines), 400, path)
            for line in lines:
                self.assertLessEqual(len(line), 120, (path, line))
                self.assertTrue(all(" " <= character <= "~" for character in line), (path, line))

    def test_functions_have_at_most_40_lines(self):
        for path in sources():
            for node in ast.walk(ast.parse(path.read_text(encoding="utf-8"))):
                if isinstance(node, ast.FunctionDef):
                    self.assertLess(node.end_lineno - node.lineno, 40, (path, node.name))

    def test_imports(self):
        for path in sources():
            for node in ast.walk(ast.parse(path.read_text(encoding="utf-8"))):
                self.assertNotIsInstance(node, ast.Import, path)
                if isinstance(node, ast.ImportFrom):
                    self.assertEqual(node.level, 0, path)
                    self.assertTrue(node.module.startswith("tracerline.") or node.module in LIBRARY, path)


if __name__ == "__main__":
    unittest.main()
