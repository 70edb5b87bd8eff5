"""The interface stands where the document lists it, and the files keep within the subset of the language."""

import ast
import builtins
import inspect
import io
import pathlib
import re
import tokenize
import unittest

from landingwires.books import Book
from landingwires.burning import burns, shows_burns
from landingwires.choosing import cheapest
from landingwires.comparing import alike, needless, shows_alike
from landingwires.counting import many, shorts
from landingwires.desk import Desk
from landingwires.houses import House
from landingwires.keeping import keeps, shows_keeps
from landingwires.reaching import can, shows_can, standings
from landingwires.rules import Rule, odd
from landingwires.stairs import Stair, read_stair
from landingwires.standings import Standing
from landingwires.switching import effect, shows_effect
from landingwires.telling import fitting, parting, shows_parting

FOLDER = pathlib.Path(__file__).resolve().parent.parent / 'landingwires'
METHODS = {
    Standing: ('__init__', 'marks', 'wires', 'is_short', 'bare', 'within', '__contains__', '__or__', '__and__', '__eq__'),
    Book: ('__init__', 'text', 'wires', 'kinds', 'order', 'switches', 'lamps', 'put', 'risen', 'sunk', '__len__',
           '__getitem__', '__contains__', '__invert__', '__eq__'),
    House: ('__init__', 'book', 'landings', 'is_short', 'lit', 'word', 'joined', 'below', 'above', 'turned', '__len__',
            '__getitem__', '__invert__', '__eq__'),
    Rule: ('__init__', 'text', 'states', 'begin', 'lit', '__call__', '__invert__', '__eq__'),
    Stair: ('__init__', 'book', 'landings', 'is_house', 'done', 'lit', 'word', 'add', 'take', 'turn', 'change', 'undo', 'redo',
            'trial', 'tried', 'keep', 'copy', 'journal', '__len__', '__getitem__', '__setitem__', '__iter__', '__eq__'),
    Desk: ('__init__', 'stair', 'say')}
PARAMETERS = {
    Standing: ['marks'], Standing.bare: ['wires'], Standing.within: ['self', 'other'], Book: ['text'],
    Book.switches: ['self', 'kind'], Book.lamps: ['self', 'kind'], Book.put: ['self', 'number', 'text'],
    Book.risen: ['self', 'kind', 'position', 'standing'], Book.sunk: ['self', 'kind', 'position', 'standing'],
    House: ['book', 'landings'], House.word: ['self', 'number', 'lamp'], House.joined: ['self', 'one', 'other'],
    House.below: ['self', 'number'], House.above: ['self', 'number'], House.turned: ['self', 'number', 'switch'],
    burns: ['house', 'number', 'lamp'], shows_burns: ['house', 'number', 'lamp', 'value'], standings: ['book'],
    can: ['book', 'what'], shows_can: ['book', 'what', 'value'], Rule: ['text'], Rule.__call__: ['self', 'house'],
    odd: ['book'], keeps: ['book', 'kind', 'lamp', 'rule'], shows_keeps: ['book', 'kind', 'lamp', 'rule', 'value'],
    effect: ['book', 'mine', 'theirs'], shows_effect: ['book', 'mine', 'theirs', 'value'], alike: ['one', 'other'],
    needless: ['book'], shows_alike: ['one', 'other', 'value'], fitting: ['books', 'trials'], parting: ['books'],
    shows_parting: ['books', 'value'], shorts: ['book', 'kinds'], many: ['book', 'kinds', 'number', 'lamp', 'word'],
    cheapest: ['book', 'offers', 'wishes'], Stair: ['book'], Stair.word: ['self', 'number', 'lamp'],
    Stair.add: ['self', 'kind', 'position'], Stair.take: ['self'], Stair.turn: ['self', 'number', 'switch'],
    Stair.change: ['self', 'other'], Stair.undo: ['self'], Stair.redo: ['self'], Stair.trial: ['self'],
    Stair.tried: ['self', 'look', 'keep'], Stair.keep: ['self'], Stair.copy: ['self'], read_stair: ['book', 'lines'],
    Desk: ['text'], Desk.say: ['self', 'line']}
FILES = {
    'standings': (Standing,), 'books': (Book,), 'houses': (House,), 'burning': (burns, shows_burns),
    'reaching': (standings, can, shows_can), 'rules': (Rule, odd), 'keeping': (keeps, shows_keeps),
    'switching': (effect, shows_effect), 'comparing': (alike, needless, shows_alike), 'telling': (fitting, parting, shows_parting),
    'counting': (shorts, many), 'choosing': (cheapest,), 'stairs': (Stair, read_stair), 'desk': (Desk,)}
BUILTINS = '''len range enumerate zip min max sum abs sorted int str bool list tuple dict set isinstance ord repr any all
divmod ValueError TypeError'''.split()
BARRED = re.compile(r'\b(type|typing|enum|Enum|Flag|Generic|Protocol|ABC|namedtuple|register|mro|law|_wall)\b')
DECORATORS = ('property', 'staticmethod')


def files():
    """All files of the package, each with its text."""
    return [(path, path.read_text(encoding='utf-8')) for path in sorted(FOLDER.glob('*.py'))]


class InterfaceTest(unittest.TestCase):

    def test_methods_stand_in_the_class_itself(self):
        for owner, names in METHODS.items():
            for name in names:
                self.assertIn(name, vars(owner), f'{owner} {name}')
            self.assertEqual(owner.__bases__, (object,))

    def test_parameters(self):
        for call, names in PARAMETERS.items():
            self.assertEqual(list(inspect.signature(call).parameters), names)

    def test_classes_and_functions_stand_in_their_files(self):
        for name, things in FILES.items():
            for thing in things:
                self.assertEqual(thing.__module__, 'landingwires.' + name)


class FilesTest(unittest.TestCase):

    def check(self, holds, path, row):
        self.assertTrue(holds, f'{path.name}, line {row}')

    def test_the_folder_holds_files_of_the_package_only(self):
        names = [path.name for path in FOLDER.iterdir() if path.name != '__pycache__']
        for name in names:
            self.assertRegex(name, r'\A[a-z_]+\.py\Z')
        self.assertIn('__init__.py', names)

    def test_sizes_and_characters(self):
        for path, text in files():
            lines = text.split('\n')
            self.assertLess(len(lines), 400, path)
            for row, line in enumerate(lines, 1):
                self.check(len(line) <= 120 and all(' ' <= letter <= '~' for letter in line), path, row)
            for node in ast.walk(ast.parse(text)):
                if isinstance(node, ast.FunctionDef):
                    self.check(node.end_lineno - node.lineno < 40, path, node.lineno)

    def test_imports_are_of_the_package(self):
        for path, text in files():
            for node in ast.walk(ast.parse(text)):
                self.check(not isinstance(node, ast.Import), path, 0)
                if isinstance(node, ast.ImportFrom):
                    self.check(node.level == 0 and node.module.startswith('landingwires.'), path, node.lineno)
                    home = ast.parse((FOLDER / (node.module.split('.')[1] + '.py')).read_text())
                    told = [inner.name for inner in home.body if hasattr(inner, 'name')]
                    told += [inner.targets[0].id for inner in home.body if isinstance(inner, ast.Assign)]
                    for alias in node.names:
                        self.check(alias.name in told and alias.asname is None, path, node.lineno)

    def test_words_and_signs(self):
        for path, text in files():
            for token in tokenize.generate_tokens(io.StringIO(text).readline):
                if token.type in (tokenize.NAME, tokenize.STRING):
                    self.check(not BARRED.search(token.string), path, token.start[0])
                if token.type == tokenize.STRING:
                    self.check('%' not in token.string, path, token.start[0])
                self.check(token.string not in ('/', '/=', 'global', 'async', '@='), path, token.start[0])

    def test_builtins_decorators_and_names(self):
        for path, text in files():
            for node in ast.walk(ast.parse(text)):
                if isinstance(node, ast.Name) and node.id != '_' and hasattr(builtins, node.id):
                    self.check(node.id in (*BUILTINS, *DECORATORS), path, node.lineno)
                if isinstance(node, (ast.FunctionDef, ast.ClassDef)):
                    kept = [mark.id in DECORATORS for mark in node.decorator_list]
                    self.check(all(kept), path, node.lineno)
                self.check(not isinstance(node, (ast.Lambda, ast.GeneratorExp, ast.Yield, ast.AnnAssign)), path,
                           getattr(node, 'lineno', 0))

    def test_no_name_means_two_things(self):
        for path, text in files():
            tree = ast.parse(text)
            taken = [alias.name for node in tree.body if isinstance(node, ast.ImportFrom) for alias in node.names]
            taken += [node.name for node in tree.body if isinstance(node, (ast.ClassDef, ast.FunctionDef))]
            self.assertEqual(len(taken), len(set(taken)), path)
            for node in ast.walk(tree):
                if isinstance(node, ast.arg):
                    self.check(node.arg not in taken, path, node.lineno)
                if isinstance(node, ast.Name) and isinstance(node.ctx, ast.Store):
                    self.check(node.id not in taken, path, node.lineno)

    def test_variables_of_comprehensions_are_no_names_from_further_out(self):
        forms = (ast.ListComp, ast.SetComp, ast.DictComp)

        def stored(node):
            inner = [child for child in ast.iter_child_nodes(node) if not isinstance(child, (ast.FunctionDef, *forms))]
            own = {node.id} if isinstance(node, ast.Name) and isinstance(node.ctx, ast.Store) else set()
            own |= {node.arg} if isinstance(node, ast.arg) else set()
            return own.union(*[stored(child) for child in inner])

        def visit(path, node, outer):
            for child in ast.iter_child_nodes(node):
                more = stored(child) if isinstance(child, ast.FunctionDef) else set()
                if isinstance(child, forms):
                    more = set().union(*[stored(part.target) for part in child.generators])
                    self.check(not more & outer, path, child.lineno)
                visit(path, child, outer | more)

        for path, text in files():
            visit(path, ast.parse(text), set())

    def test_what_is_imported_is_used(self):
        for path, text in files():
            tree = ast.parse(text)
            used = [node.id for node in ast.walk(tree) if isinstance(node, ast.Name)]
            for node in tree.body:
                for alias in node.names if isinstance(node, ast.ImportFrom) else ():
                    self.check(alias.name in used, path, node.lineno)

    def test_methods_of_builtin_values(self):
        # A set is not kept, nor a list sorted in its place: the package has a method add, and classes that compare.
        for path, text in files():
            for node in ast.walk(ast.parse(text)):
                if isinstance(node, ast.Call) and isinstance(node.func, ast.Attribute):
                    self.check(node.func.attr not in ('sort', 'format', 'keys', 'clear'), path, node.lineno)
                    if node.func.attr == 'add':
                        self.check(node.func.value.id == 'stair' and not node.keywords, path, node.lineno)

    def test_no_two_files_import_from_each_other(self):
        found = {path.stem: {node.module.split('.')[1] for node in ast.parse(text).body if isinstance(node, ast.ImportFrom)}
                 for path, text in files()}
        left = dict(found)
        while left:
            free = [name for name, others in left.items() if not others & set(left)]
            self.assertTrue(free, left)
            for name in free:
                del left[name]


if __name__ == '__main__':
    unittest.main()
