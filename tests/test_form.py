"""The form of the code, as far as it can be told without much ado."""

import ast
import pathlib
import unittest

FOLDER = pathlib.Path(__file__).parent.parent / 'treadplans'
FILES = sorted(FOLDER.rglob('*.py'))


class TestForm(unittest.TestCase):
    def test_files(self):
        others = [path for path in FOLDER.rglob('*') if path.suffix not in ('.py', '.pyc') and path.is_file()]
        self.assertEqual(others, [])
        self.assertTrue((FOLDER / '__init__.py').is_file())

    def test_sizes_and_characters(self):
        for path in FILES:
            text = path.read_text(encoding='utf-8')
            lines = text.split('\n')
            self.assertTrue(set(text) <= {'\n'} | {chr(code) for code in range(32, 127)}, path.name)
            self.assertTrue(len(lines) <= 399 and max(map(len, lines)) <= 120, path.name)
            for node in ast.walk(ast.parse(text)):
                if isinstance(node, ast.FunctionDef):
                    self.assertTrue(node.end_lineno - node.lineno < 40, node.name)

    def test_what_is_imported(self):
        for path in FILES:
            for node in ast.walk(ast.parse(path.read_text(encoding='utf-8'))):
                self.assertNotIsInstance(node, ast.Import, path.name)
                if isinstance(node, ast.ImportFrom):
                    module = node.module.split('.')[0]
                    self.assertIn(module, ('treadplans', 'collections', 'heapq', 'itertools', 'math'), path.name)
