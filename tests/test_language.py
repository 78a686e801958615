"""The rules of the language that can be read off the files; the others are kept by care."""

import ast
import builtins
import inspect
import pathlib
import re
import unittest

from anystore import (
    bounds, closed, desk, editions, errors, looker, machines, places, plain, programs, reading, stands, terms, ways,
    writing, yard)

FOLDER = pathlib.Path(__file__).resolve().parent.parent / "anystore"
FILES = sorted(FOLDER.glob("*.py"))
ALLOWED = set("""
len range enumerate zip min max sum abs sorted reversed int str bool bytes list tuple dict set isinstance ord repr any
all divmod iter next Exception ValueError TypeError KeyError IndexError LookupError ZeroDivisionError ArithmeticError
OverflowError RuntimeError NotImplementedError AttributeError StopIteration NotImplemented
""".split())
BARRED_WORDS = """
type typing typing_extensions enum Enum IntEnum StrEnum Flag IntFlag Generic Protocol ABC ABCMeta namedtuple NamedTuple
TypedDict TYPE_CHECKING abstractmethod
""".split()
BARRED_NAMES = set("register mro elements open input law version_info with_traceback add_note format".split())
METHODS = {"__init__", "__eq__", "__repr__", "__str__", "__len__"}
BARRED_WORDS_AS_NAMES = set("""
attrgetter breakpoint builtins compile copyright credits delattr dir eval exec exit gc getattr globals hasattr help id
importlib license locals methodcaller os quit setattr super type vars sys
""".split())
NEVER = (ast.Global, ast.AsyncFunctionDef, ast.Await, ast.Import, ast.Div)


def tree_of(path):
    return ast.parse(path.read_text(encoding="utf-8"))


def names_bound(tree):
    for node in ast.walk(tree):
        if isinstance(node, (ast.FunctionDef, ast.ClassDef)):
            yield node.name
        elif isinstance(node, ast.arg):
            yield node.arg
        elif isinstance(node, ast.Name) and isinstance(node.ctx, ast.Store):
            yield node.id
        elif isinstance(node, ast.Attribute):
            yield node.attr


class FilesTest(unittest.TestCase):
    def test_the_folder_holds_files_alone(self):
        found = [path.name for path in FOLDER.iterdir() if path.name != "__pycache__"]
        self.assertEqual(sorted(found), [path.name for path in FILES])
        self.assertIn("__init__.py", found)

    def test_characters_and_lines(self):
        for path in FILES:
            with self.subTest(path.name):
                text = path.read_text(encoding="utf-8")
                self.assertLess(len(text.split("\n")), 400)
                self.assertLessEqual(max(len(line) for line in text.split("\n")), 120)
                self.assertEqual([sign for sign in text if not (" " <= sign <= "~" or sign == "\n")], [])

    def test_barred_words(self):
        for path in FILES:
            text = path.read_text(encoding="utf-8")
            for word in BARRED_WORDS:
                self.assertIsNone(re.search(rf"\b{word}\b", text), (path.name, word))
            for word in ("dataclass", "overload", "contextmanager"):
                self.assertNotIn(word, text, path.name)

    def test_length_of_functions(self):
        for path in FILES:
            for node in ast.walk(tree_of(path)):
                if isinstance(node, ast.FunctionDef):
                    self.assertLessEqual(node.end_lineno - node.lineno + 1, 40, (path.name, node.name))


class NamesTest(unittest.TestCase):
    def test_names(self):
        own = {path.stem for path in FILES}
        self.assertFalse(own & set(dir(builtins)))
        for path in FILES:
            for name in names_bound(tree_of(path)):
                with self.subTest(path.name, name=name):
                    self.assertNotIn(name, BARRED_NAMES | BARRED_WORDS_AS_NAMES)
                    self.assertTrue(not name.startswith("_") or name in METHODS)

    def test_no_builtin_has_another_meaning(self):
        for path in FILES:
            for node in ast.walk(tree_of(path)):
                if isinstance(node, ast.Name) and hasattr(builtins, node.id):
                    self.assertIn(node.id, ALLOWED, path.name)
                    self.assertIsInstance(node.ctx, ast.Load, path.name)
                if isinstance(node, ast.arg):
                    self.assertFalse(hasattr(builtins, node.arg), (path.name, node.arg))

    def test_no_name_is_a_method_and_an_attribute(self):
        methods, fields = set(), set()
        for path in FILES:
            for node in ast.walk(tree_of(path)):
                if isinstance(node, ast.ClassDef):
                    methods.update(part.name for part in node.body if isinstance(part, ast.FunctionDef))
                if isinstance(node, ast.Attribute) and isinstance(node.ctx, ast.Store):
                    fields.add(node.attr)
        self.assertEqual(methods & fields, set())


class CodeTest(unittest.TestCase):
    def test_barred_code(self):
        for path in FILES:
            for node in ast.walk(tree_of(path)):
                with self.subTest(path.name, line=getattr(node, "lineno", 0)):
                    self.assertNotIsInstance(node, NEVER)
                    if isinstance(node, ast.Constant):
                        self.assertNotIsInstance(node.value, (float, complex))
                        self.assertNotIn("%", str(node.value))
                    if isinstance(node, ast.Compare):
                        for sign, right in zip(node.ops, node.comparators):
                            if isinstance(sign, (ast.Is, ast.IsNot)):
                                self.assertIn(getattr(right, "value", 0), (None, True, False))

    def test_lambdas_stand_each_on_a_line_of_its_own(self):
        for path in FILES:
            lines = [node.lineno for node in ast.walk(tree_of(path)) if isinstance(node, ast.Lambda)]
            self.assertEqual(len(lines), len(set(lines)), path.name)

    def test_stars_stand_before_names(self):
        for path in FILES:
            for node in ast.walk(tree_of(path)):
                if isinstance(node, ast.Starred):
                    self.assertIsInstance(node.value, ast.Name, (path.name, node.lineno))

    def test_what_a_try_holds(self):
        for path in FILES:
            for node in ast.walk(tree_of(path)):
                if isinstance(node, ast.ExceptHandler):
                    self.assertIsInstance(node.type, ast.Name, path.name)
                    self.assertIn(node.type.id, ERRORS, path.name)
                if isinstance(node, ast.Try):
                    for part in node.finalbody:
                        self.assertIsInstance(part, ast.Assign, path.name)
                        for inner in ast.walk(part):
                            self.assertNotIsInstance(inner, (ast.Call, ast.Subscript, ast.BinOp), path.name)

    def test_returns_of_double_underscore_methods(self):
        for path in FILES:
            for node in ast.walk(tree_of(path)):
                if isinstance(node, ast.FunctionDef) and node.name in ("__len__", "__repr__", "__str__"):
                    self.assertEqual(len(node.body), 1, path.name)
                    told = node.body[0].value
                    name = {"__len__": "len", "__str__": "str"}.get(node.name)
                    self.assertTrue(isinstance(told, ast.JoinedStr) if name is None else told.func.id == name, path.name)

    def test_any_and_all_take_lists(self):
        for path in FILES:
            for node in ast.walk(tree_of(path)):
                if isinstance(node, ast.Call) and isinstance(node.func, ast.Name):
                    if node.func.id in ("any", "all", "sum", "min", "max", "sorted"):
                        self.assertFalse([part for part in node.args if isinstance(part, ast.GeneratorExp)], path.name)

    def test_no_name_of_a_file_has_that_of_its_imports_or_classes(self):
        for path in FILES:
            tree = tree_of(path)
            taken = [part.name for node in ast.walk(tree) if isinstance(node, ast.ImportFrom) for part in node.names]
            taken += [node.name for node in ast.walk(tree) if isinstance(node, ast.ClassDef)]
            self.assertEqual(len(taken), len(set(taken)), path.name)
            for node in ast.walk(tree):
                if isinstance(node, ast.arg):
                    self.assertNotIn(node.arg, taken, path.name)
                if isinstance(node, ast.Name) and isinstance(node.ctx, ast.Store):
                    self.assertNotIn(node.id, taken, path.name)

    def test_fields_that_are_read_are_set_by_a_class(self):
        stored, called, read = set(), set(), set()
        for path in FILES:
            for node in ast.walk(tree_of(path)):
                if isinstance(node, ast.Call) and isinstance(node.func, ast.Attribute):
                    called.add(node.func.attr)
                elif isinstance(node, ast.Attribute):
                    (stored if isinstance(node.ctx, ast.Store) else read).add(node.attr)
        self.assertEqual(read - called - stored, set())

    def test_imports_come_from_the_package_and_make_no_ring(self):
        needs = {}
        for path in FILES:
            found = [node for node in ast.walk(tree_of(path)) if isinstance(node, ast.ImportFrom)]
            for node in found:
                self.assertEqual(node.level, 0)
                self.assertTrue(node.module.startswith("anystore."), path.name)
                self.assertNotIn("*", [part.name for part in node.names])
            needs[path.stem] = {node.module.split(".")[1] for node in found}
        while needs:
            free = [name for name in needs if not needs[name] & set(needs)]
            self.assertTrue(free, needs)
            for name in free:
                del needs[name]


# What the interface lists: by the modules each function's arguments, and each class's with those of its methods.
TERM = "(expression, boxes, *, asked=0, told=0)"
NAMED = "(program, name)"
BEAT = "(self, given=None, *, room=True)"
FUNCTIONS = {
    terms: {"worth": TERM, "holds": TERM.replace("expression", "test")},
    writing: {"expression_text": "(expression)", "test_text": "(test)", "program_text": "(program)"},
    reading: {"read_program": "(text)"}, places: {"places": NAMED}, stands: {"stand_of": "(program, words)"},
    editions: {"swapped": "(program, room)"},
    bounds: {
        "beats_home": NAMED, "beats_right": NAMED, "measure": NAMED, "measure_holds": "(program, name, thing)",
        "beats_of": "(program)"},
    looker: {
        "run_end": "(program, name, run)", "breaks": "(program, name, thing)", "stands_many": NAMED,
        "looked": "(program)"},
    closed: {"closure": NAMED, "closes": "(program, name, thing)"},
    ways: {"marks": "(hold)", "round_beats": "(hold, *, miss=1)", "way_beats": "(hold, *, miss=1)"},
}
CLASSES = {
    programs.Room: {
        "": "(name, *, above='', boxes=(), sayings=(), ask=None, told=None, promise=None, body=())",
        "__eq__": "(self, other)", "__len__": "(self)", "__repr__": "(self)"},
    programs.Program: {
        "": "(rooms)", "rooms": "(self)", "room_of": "(self, name)", "beneath": "(self, name)",
        "__eq__": "(self, other)", "__len__": "(self)", "__str__": "(self)", "__repr__": "(self)"},
    plain.Plain: {
        "": "(program, *, stand=None)", "beat": BEAT, "stand": "(self)", "now": "(self)", "refills": "(self)"},
    machines.Machine: {
        "": "(program)", "beat": BEAT, "stand": "(self)", "now": "(self)", "refills": "(self)", "words": "(self)",
        "names": "(self)", "program": "(self)", "spoil": "(self, at, word)", "swap": "(self, room)",
        "trial": "(self, deed)", "__eq__": "(self, other)", "__len__": "(self)", "__repr__": "(self)"},
    ways.Way: {
        "": "(hold, *, miss=1, bound=10)", "beat": "(self, *, word=None, taking=False, lost=(False, False))",
        "store": "(self)", "spoil": "(self, store)", "is_plain": "(self)", "under_way": "(self)",
        "__eq__": "(self, other)", "__len__": "(self)", "__repr__": "(self)"},
    yard.Yard: {
        "": "(machines, ways=())", "beat": "(self, *, lost=())", "right_in": "(self)", "is_right": "(self)",
        "__len__": "(self)"},
    desk.Desk: {"": "()", "say": "(self, row)", "__len__": "(self)"},
}
ERRORS = {
    "NoText": ValueError, "NoProgram": ValueError, "NoRoom": LookupError, "NoStand": ValueError, "NoWord": IndexError,
    "NoEdition": ValueError, "NotLet": RuntimeError, "NoRun": ValueError, "TooMany": OverflowError,
    "NoWay": ValueError, "NoNumber": ValueError, "TooLost": RuntimeError, "NoStore": ValueError, "NoYard": ValueError,
    "NoRow": ValueError, "NoName": KeyError}
HOMES = {
    programs.Room: programs, programs.Program: programs, plain.Plain: plain, machines.Machine: machines,
    ways.Way: ways, yard.Yard: yard, desk.Desk: desk}


class InterfaceTest(unittest.TestCase):
    def test_functions(self):
        for module, listed in FUNCTIONS.items():
            for name, arguments in listed.items():
                found = getattr(module, name)
                self.assertEqual(found.__module__, module.__name__)
                self.assertEqual(str(inspect.signature(found)), arguments, name)

    def test_classes(self):
        for found, listed in CLASSES.items():
            self.assertEqual(found.__module__, HOMES[found].__name__)
            for name, arguments in listed.items():
                thing = found if name == "" else vars(found)[name]
                self.assertEqual(str(inspect.signature(thing)), arguments, (found, name))

    def test_errors(self):
        for name, above in ERRORS.items():
            self.assertEqual(getattr(errors, name).__bases__, (above,))
            self.assertEqual(getattr(errors, name).__module__, errors.__name__)
