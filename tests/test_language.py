"""A part of the rules of the language, as far as they are easily seen."""

import ast
import builtins
import pathlib
import re
import unittest

PACKAGE = pathlib.Path(__file__).resolve().parent.parent / 'mixtrees'
FILES = sorted(PACKAGE.glob('*.py'))
BUILTINS = set('''
    len range enumerate zip min max sum abs sorted reversed int str bool list tuple dict set isinstance ord repr
    any all divmod iter next property classmethod staticmethod ValueError KeyError IndexError ZeroDivisionError
    NotImplemented TypeError super
'''.split())
BARRED = re.compile(
    r'\b(type|typing|enum|Enum|Flag|Generic|Protocol|ABC|namedtuple|NamedTuple|TypedDict|abstractmethod)\b'
    r'|dataclass|overload|contextmanager')
INTERFACE = {
    'errors': ['MixError'],
    'trees': ['is_tree', 'feeds_of', 'together', 'fair', 'plain', 'restricted'],
    'mixing': ['mixed', 'walk'],
    'places': ['place_of', 'item_at', 'is_before', 'counts_in', 'when_all'],
    'changes': ['push', 'push_limit'],
    'endless': ['names_endless', 'period', 'shares', 'counts_endless', 'longest_wait'],
}


class LanguageTest(unittest.TestCase):

    def each(self, kinds):
        for file in FILES:
            for node in ast.walk(ast.parse(file.read_text())):
                if isinstance(node, kinds):
                    yield file.name, node

    def test_only_python_files(self):
        others = [path.name for path in PACKAGE.iterdir() if path.suffix != '.py' and path.name != '__pycache__']
        self.assertEqual(others, [])
        self.assertIn('__init__.py', [file.name for file in FILES])

    def test_size_and_characters(self):
        for file in FILES:
            text = file.read_text()
            self.assertLess(len(text.splitlines()), 400, file.name)
            self.assertIsNone(re.search('[^\n -~]', text), file.name)
            self.assertIsNone(BARRED.search(text), file.name)
            for line in text.splitlines():
                self.assertLessEqual(len(line), 120, (file.name, line))

    def test_size_of_functions(self):
        for file, node in self.each(ast.FunctionDef):
            self.assertLessEqual(node.end_lineno - node.lineno + 1, 40, (file, node.name))

    def test_imports(self):
        for file, node in self.each((ast.Import, ast.ImportFrom)):
            self.assertIsInstance(node, ast.ImportFrom, file)
            self.assertEqual(node.level, 0, file)
            self.assertTrue(node.module.startswith('mixtrees.'), (file, node.module))

    def test_names(self):
        for file, node in self.each((ast.Name, ast.arg, ast.Attribute)):
            name = getattr(node, 'id', None) or getattr(node, 'arg', None) or node.attr
            self.assertFalse(name.startswith('_') and name != '__init__', (file, name))
        for file, node in self.each(ast.Name):
            if node.id in dir(builtins):
                self.assertIn(node.id, BUILTINS, file)
                self.assertIsInstance(node.ctx, ast.Load, (file, node.id))

    def test_values(self):
        self.assertEqual(list(self.each((ast.Global, ast.Div, ast.AsyncFunctionDef))), [])
        for file, node in self.each(ast.Constant):
            self.assertNotIsInstance(node.value, (float, complex), file)
            if isinstance(node.value, str):
                self.assertNotIn('%', node.value, file)

    def test_interface_is_defined_where_it_is_listed(self):
        for module, names in INTERFACE.items():
            tree = ast.parse((PACKAGE / (module + '.py')).read_text())
            defined = [node.name for node in tree.body if isinstance(node, (ast.FunctionDef, ast.ClassDef))]
            for name in names:
                self.assertIn(name, defined)
