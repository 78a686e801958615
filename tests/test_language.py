"""The rules of the language that can be read off the files; the others are kept by care."""

import ast
import builtins
import inspect
import pathlib
import re
import unittest

from anystore import bounds, editions, looker, machines, places, plain, programs, reading, stands, terms, writing

FOLDER = pathlib.Path(__file__).resolve().parent.parent / "anystore"
FILES = sorted(FOLDER.glob("*.py"))
ALLOWED = set("""
len range enumerate zip min max sum abs sorted reversed int str bool bytes list tuple dict set isinstance ord repr any
all divmod iter next Exception ValueError TypeError KeyError IndexError LookupError ZeroDivisionError ArithmeticError
OverflowError RuntimeError NotImplementedError AttributeError StopIteration NotImplemented
""".split())
BARRED_WORDS = """
type typing typing_extensions enum Enum IntEnum StrEnum Flag IntFlag Generic Protocol ABC ABCMeta namedtuple NamedTuple
TypedDict TYPE_CHECKING abstractmethod
""".split()
BARRED_NAMES = set("register mro elements open input law version_info with_traceback add_note format".split())
METHODS = {"__init__", "__eq__", "__repr__", "__str__", "__len__"}
NEVER = (ast.Global, ast.AsyncFunctionDef, ast.Await, ast.Import, ast.Div)


def tree_of(path):
    return ast.parse(path.read_text(encoding="utf-8"))


def names_bound(tree):
    for node in ast.walk(tree):
        if isinstance(node, (ast.FunctionDef, ast.ClassDef)):
            yield node.name
        elif isinstance(node, ast.arg):
            yield node.arg
        elif isinstance(node, ast.Name) and isinstance(node.ctx, ast.Store):
            yield node.id
        elif isinstance(node, ast.Attribute):
            yield node.attr


class FilesTest(unittest.TestCase):
    def test_the_folder_holds_files_alone(self):
        found = [path.name for path in FOLDER.iterdir() if path.name != "__pycache__"]
        self.assertEqual(sorted(found), [path.name for path in FILES])
        self.assertIn("__init__.py", found)

    def test_characters_and_lines(self):
        for path in FILES:
            with self.subTest(path.name):
                text = path.read_text(encoding="utf-8")
                self.assertLess(len(text.split("\n")), 400)
                self.assertLessEqual(max(len(line) for line in text.split("\n")), 120)
                self.assertEqual([sign for sign in text if not (" " <= sign <= "~" or sign == "\n")], [])

    def test_barred_words(self):
        for path in FILES:
            text = path.read_text(encoding="utf-8")
            for word in BARRED_WORDS:
                self.assertIsNone(re.search(rf"\b{word}\b", text), (path.name, word))
            for word in ("dataclass", "overload", "contextmanager"):
                self.assertNotIn(word, text, path.name)

    def test_length_of_functions(self):
        for path in FILES:
            for node in ast.walk(tree_of(path)):
                if isinstance(node, ast.FunctionDef):
                    self.assertLessEqual(node.end_lineno - node.lineno + 1, 40, (path.name, node.name))


class NamesTest(unittest.TestCase):
    def test_names(self):
        own = {path.stem for path in FILES}
        self.assertFalse(own & set(dir(builtins)))
        for path in FILES:
            for name in names_bound(tree_of(path)):
                with self.subTest(path.name, name=name):
                    self.assertNotIn(name, BARRED_NAMES)
                    self.assertTrue(not name.startswith("_") or name in METHODS)

    def test_no_builtin_has_another_meaning(self):
        for path in FILES:
            for node in ast.walk(tree_of(path)):
                if isinstance(node, ast.Name) and hasattr(builtins, node.id):
                    self.assertIn(node.id, ALLOWED, path.name)
                    self.assertIsInstance(node.ctx, ast.Load, path.name)
                if isinstance(node, ast.arg):
                    self.assertFalse(hasattr(builtins, node.arg), (path.name, node.arg))

    def test_no_name_is_a_method_and_an_attribute(self):
        methods, fields = set(), set()
        for path in FILES:
            for node in ast.walk(tree_of(path)):
                if isinstance(node, ast.ClassDef):
                    methods.update(part.name for part in node.body if isinstance(part, ast.FunctionDef))
                if isinstance(node, ast.Attribute) and isinstance(node.ctx, ast.Store):
                    fields.add(node.attr)
        self.assertEqual(methods & fields, set())


class CodeTest(unittest.TestCase):
    def test_barred_code(self):
        for path in FILES:
            for node in ast.walk(tree_of(path)):
                with self.subTest(path.name, line=getattr(node, "lineno", 0)):
                    self.assertNotIsInstance(node, NEVER)
                    if isinstance(node, ast.Constant):
                        self.assertNotIsInstance(node.value, (float, complex))
                        self.assertNotIn("%", str(node.value))
                    if isinstance(node, ast.Compare):
                        for sign, right in zip(node.ops, node.comparators):
                            if isinstance(sign, (ast.Is, ast.IsNot)):
                                self.assertIn(getattr(right, "value", 0), (None, True, False))

    def test_any_and_all_take_lists(self):
        for path in FILES:
            for node in ast.walk(tree_of(path)):
                if isinstance(node, ast.Call) and isinstance(node.func, ast.Name):
                    if node.func.id in ("any", "all", "sum", "min", "max", "sorted"):
                        self.assertFalse([part for part in node.args if isinstance(part, ast.GeneratorExp)], path.name)

    def test_no_name_of_a_file_has_that_of_its_imports_or_classes(self):
        for path in FILES:
            tree = tree_of(path)
            taken = [part.name for node in ast.walk(tree) if isinstance(node, ast.ImportFrom) for part in node.names]
            taken += [node.name for node in ast.walk(tree) if isinstance(node, ast.ClassDef)]
            self.assertEqual(len(taken), len(set(taken)), path.name)
            for node in ast.walk(tree):
                if isinstance(node, ast.arg):
                    self.assertNotIn(node.arg, taken, path.name)
                if isinstance(node, ast.Name) and isinstance(node.ctx, ast.Store):
                    self.assertNotIn(node.id, taken, path.name)

    def test_fields_that_are_read_are_set_by_a_class(self):
        stored, called, read = set(), set(), set()
        for path in FILES:
            for node in ast.walk(tree_of(path)):
                if isinstance(node, ast.Call) and isinstance(node.func, ast.Attribute):
                    called.add(node.func.attr)
                elif isinstance(node, ast.Attribute):
                    (stored if isinstance(node.ctx, ast.Store) else read).add(node.attr)
        self.assertEqual(read - called - stored, set())

    def test_imports_come_from_the_package_and_make_no_ring(self):
        needs = {}
        for path in FILES:
            found = [node for node in ast.walk(tree_of(path)) if isinstance(node, ast.ImportFrom)]
            for node in found:
                self.assertEqual(node.level, 0)
                self.assertTrue(node.module.startswith("anystore."), path.name)
                self.assertNotIn("*", [part.name for part in node.names])
            needs[path.stem] = {node.module.split(".")[1] for node in found}
        while needs:
            free = [name for name in needs if not needs[name] & set(needs)]
            self.assertTrue(free, needs)
            for name in free:
                del needs[name]


class InterfaceTest(unittest.TestCase):
    def test_defined_where_it_is_listed(self):
        listed = (
            (terms, ("worth", "holds")), (writing, ("expression_text", "test_text", "program_text")),
            (programs, ("Room", "Program")), (places, ("places",)), (reading, ("read_program",)),
            (stands, ("stand_of",)), (plain, ("Plain",)), (machines, ("Machine",)), (editions, ("swapped",)),
            (bounds, ("beats_home", "beats_right", "measure", "measure_holds", "beats_of")),
            (looker, ("run_end", "breaks", "stands_many", "looked")))
        for module, names in listed:
            for name in names:
                self.assertEqual(getattr(module, name).__module__, module.__name__)

    def test_arguments(self):
        term = "(expression, boxes, *, asked=0, told=0)"
        room = "(name, *, above='', boxes=(), sayings=(), ask=None, told=None, promise=None, body=())"
        listed = (
            (terms.worth, term), (terms.holds, term.replace("expression", "test")),
            (writing.expression_text, "(expression)"), (writing.test_text, "(test)"),
            (writing.program_text, "(program)"), (places.places, "(program, name)"), (programs.Room, room),
            (programs.Program, "(rooms)"), (programs.Program.rooms, "(self)"),
            (programs.Program.room_of, "(self, name)"), (programs.Program.beneath, "(self, name)"),
            (reading.read_program, "(text)"), (stands.stand_of, "(program, words)"),
            (plain.Plain, "(program, *, stand=None)"), (plain.Plain.beat, "(self, given=None, *, room=True)"),
            (plain.Plain.stand, "(self)"), (plain.Plain.now, "(self)"), (plain.Plain.refills, "(self)"),
            (machines.Machine, "(program)"), (machines.Machine.beat, "(self, given=None, *, room=True)"),
            (machines.Machine.stand, "(self)"), (machines.Machine.now, "(self)"), (machines.Machine.refills, "(self)"),
            (machines.Machine.words, "(self)"), (machines.Machine.names, "(self)"),
            (machines.Machine.program, "(self)"), (machines.Machine.spoil, "(self, at, word)"),
            (machines.Machine.swap, "(self, room)"), (machines.Machine.trial, "(self, deed)"),
            (editions.swapped, "(program, room)"), (bounds.beats_home, "(program, name)"),
            (bounds.beats_right, "(program, name)"), (bounds.measure, "(program, name)"),
            (bounds.measure_holds, "(program, name, thing)"), (bounds.beats_of, "(program)"),
            (looker.run_end, "(program, name, run)"), (looker.breaks, "(program, name, thing)"),
            (looker.stands_many, "(program, name)"), (looker.looked, "(program)"))
        for thing, wanted in listed:
            self.assertEqual(str(inspect.signature(thing)), wanted)

    def test_methods_are_the_class_own(self):
        for name in ("rooms", "room_of", "beneath", "__eq__", "__len__", "__str__", "__repr__"):
            self.assertIn(name, vars(programs.Program))
        for name in ("__eq__", "__len__", "__repr__"):
            self.assertIn(name, vars(programs.Room))
        for name in ("beat", "stand", "now", "refills"):
            self.assertIn(name, vars(plain.Plain))
        for name in (
                "beat", "stand", "now", "refills", "words", "names", "program", "spoil", "swap", "trial", "__eq__",
                "__len__", "__repr__"):
            self.assertIn(name, vars(machines.Machine))
