"""A part of the rules of the language, as far as they are easily seen."""

import ast
import builtins
import pathlib
import re
import unittest

PACKAGE = pathlib.Path(__file__).resolve().parent.parent / 'mixtrees'
FILES = sorted(PACKAGE.glob('*.py'))
BUILTINS = set('''
    len range enumerate zip min max sum abs sorted reversed int str bool list tuple dict set isinstance ord repr
    any all divmod iter next property classmethod staticmethod ValueError KeyError IndexError ZeroDivisionError
    NotImplemented TypeError super
'''.split())
BARRED = re.compile(
    r'\b(type|typing|enum|Enum|Flag|Generic|Protocol|ABC|namedtuple|NamedTuple|TypedDict|abstractmethod)\b'
    r'|dataclass|overload|contextmanager')
INTERFACE = {
    'errors': ['MixError'],
    'trees': ['is_tree', 'feeds_of', 'together', 'fair', 'plain', 'restricted'],
    'mixing': ['mixed', 'walk'],
    'places': ['place_of', 'item_at', 'is_before', 'counts_in', 'when_all'],
    'changes': ['push', 'push_limit'],
    'endless': ['names_endless', 'period', 'shares', 'counts_endless', 'longest_wait'],
    'comparing': ['same_always', 'difference', 'same_endless'],
    'seen': ['lengths_for', 'ended', 'fillings', 'weights_for'],
    'mixers': ['Mixer'],
}
METHODS = ['__init__', 'fair', 'add', 'next', 'undo', 'left', 'tree', 'taken', '__len__', '__eq__']


class LanguageTest(unittest.TestCase):

    def each(self, kinds):
        for file in FILES:
            for node in ast.walk(ast.parse(file.read_text())):
                if isinstance(node, kinds):
                    yield file.name, node

    def test_only_python_files(self):
        others = [path.name for path in PACKAGE.iterdir() if path.suffix != '.py' and path.name != '__pycache__']
        self.assertEqual(others, [])
        self.assertIn('__init__.py', [file.name for file in FILES])

    def test_size_and_characters(self):
        for file in FILES:
            text = file.read_text()
            self.assertLess(len(text.splitlines()), 400, file.name)
            self.assertIsNone(re.search('[^\n -~]', text), file.name)
            self.assertIsNone(BARRED.search(text), file.name)
            for line in text.splitlines():
                self.assertLessEqual(len(line), 120, (file.name, line))

    def test_size_of_functions(self):
        for file, node in self.each(ast.FunctionDef):
            self.assertLessEqual(node.end_lineno - node.lineno + 1, 40, (file, node.name))

    def test_imports(self):
        for file, node in self.each((ast.Import, ast.ImportFrom)):
            self.assertIsInstance(node, ast.ImportFrom, file)
            self.assertEqual(node.level, 0, file)
            self.assertTrue(node.module.startswith('mixtrees.'), (file, node.module))

    def test_names(self):
        for file, node in self.each((ast.Name, ast.arg, ast.Attribute)):
            name = getattr(node, 'id', None) or getattr(node, 'arg', None) or node.attr
            self.assertFalse(name.startswith('_') and name != '__init__', (file, name))
        for file, node in self.each(ast.Name):
            if node.id in dir(builtins):
                self.assertIn(node.id, BUILTINS, file)
                self.assertIsInstance(node.ctx, ast.Load, (file, node.id))

    def test_values(self):
        self.assertEqual(list(self.each((ast.Global, ast.Div, ast.AsyncFunctionDef))), [])
        for file, node in self.each(ast.Constant):
            self.assertNotIsInstance(node.value, (float, complex), file)
            if isinstance(node.value, str):
                self.assertNotIn('%', node.value, file)

    def test_interface_is_defined_where_it_is_listed(self):
        for module, names in INTERFACE.items():
            tree = ast.parse((PACKAGE / (module + '.py')).read_text())
            defined = [node.name for node in tree.body if isinstance(node, (ast.FunctionDef, ast.ClassDef))]
            for name in names:
                self.assertIn(name, defined)

    def test_methods_are_defined_in_the_class_itself(self):
        (body,) = [node.body for file, node in self.each(ast.ClassDef) if node.name == 'Mixer']
        defined = [node.name for node in body if isinstance(node, ast.FunctionDef)]
        for name in METHODS:
            self.assertEqual(defined.count(name), 1, name)

    def test_decorators(self):
        for file, node in self.each((ast.FunctionDef, ast.ClassDef)):
            found = [ast.unparse(decorator) for decorator in node.decorator_list]
            self.assertIn(found, ([], ['property'], ['classmethod'], ['staticmethod']), (file, node.name))

    def test_double_underscore_methods(self):
        for file, node in self.each(ast.FunctionDef):
            if node.name.startswith('_'):
                self.assertIn(node.name, ('__init__', '__eq__', '__len__'), file)

    def test_methods_and_attributes_have_different_names(self):
        methods = {node.name for file, part in self.each(ast.ClassDef) for node in part.body
                   if isinstance(node, ast.FunctionDef)}
        attributes = {node.attr for file, node in self.each(ast.Attribute) if isinstance(node.ctx, ast.Store)}
        self.assertEqual(methods & attributes, set())

    def test_what_a_class_with_equality_rules_out(self):
        self.assertEqual(list(self.each((ast.GeneratorExp, ast.Try))), [])
        # A class has a method called add, so no stored set is added to.
        for file, node in self.each(ast.Attribute):
            self.assertNotIn(node.attr, ('add', 'discard', 'sort'), file)

    def test_is(self):
        for file, node in self.each(ast.Compare):
            for sign, other in zip(node.ops, node.comparators):
                if isinstance(sign, (ast.Is, ast.IsNot)):
                    self.assertIn(ast.unparse(other), ('None', 'True', 'False'), file)

    def test_locals_hide_nothing(self):
        for file in FILES:
            tree = ast.parse(file.read_text())
            outer = {alias.name for node in tree.body if isinstance(node, ast.ImportFrom) for alias in node.names}
            outer |= {node.name for node in tree.body if isinstance(node, (ast.FunctionDef, ast.ClassDef))}
            for node in ast.walk(tree):
                if isinstance(node, ast.arg):
                    self.assertNotIn(node.arg, outer, file.name)
                if isinstance(node, ast.Name) and isinstance(node.ctx, ast.Store):
                    self.assertNotIn(node.id, outer, file.name)

    def test_no_two_files_import_from_each_other(self):
        imports = {file.stem: {node.module.split('.')[1] for node in ast.walk(ast.parse(file.read_text()))
                               if isinstance(node, ast.ImportFrom)} for file in FILES}
        while imports:
            free = [name for name, needed in imports.items() if not needed & set(imports)]
            self.assertNotEqual(free, [], imports)
            for name in free:
                del imports[name]

    def test_imports_name_the_file_that_defines(self):
        for file, node in self.each(ast.ImportFrom):
            tree = ast.parse((PACKAGE / (node.module.split('.')[1] + '.py')).read_text())
            defined = [part.name for part in tree.body if isinstance(part, (ast.FunctionDef, ast.ClassDef))]
            defined += [target.id for part in tree.body if isinstance(part, ast.Assign) for target in part.targets]
            for alias in node.names:
                self.assertIn(alias.name, defined, file)
                self.assertIsNone(alias.asname, file)
