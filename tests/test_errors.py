"""The interface, anystore/errors.py."""

import unittest

from anystore import errors

KINDS = {
    "NoText": (ValueError, ("at",)),
    "NoProgram": (ValueError, ("room", "why")),
    "NoRoom": (LookupError, ("name",)),
    "NoStand": (ValueError, ()),
    "NoWord": (IndexError, ("at", "word")),
    "NoEdition": (ValueError, ("why",)),
    "NotLet": (RuntimeError, ("run",)),
    "NoRun": (ValueError, ()),
    "TooMany": (OverflowError, ("room", "many")),
    "NoWay": (ValueError, ("why",)),
    "NoNumber": (ValueError, ("word",)),
    "TooLost": (RuntimeError, ("side",)),
    "NoStore": (ValueError, ()),
    "NoYard": (ValueError, ("why",)),
    "NoRow": (ValueError, ()),
    "NoName": (KeyError, ("name",)),
}


class ErrorsTest(unittest.TestCase):
    def test_there_are_just_these(self):
        found = [name for name, thing in vars(errors).items() if isinstance(thing, type)]
        self.assertEqual(sorted(found), sorted(KINDS))

    def test_each_is_straight_under_its_class(self):
        for name, (base, fields) in KINDS.items():
            with self.subTest(name):
                self.assertEqual(getattr(errors, name).__bases__, (base,))

    def test_none_is_under_another_one(self):
        for name in KINDS:
            for elder in KINDS:
                if name != elder:
                    self.assertFalse(issubclass(getattr(errors, name), getattr(errors, elder)))

    def test_fields_are_set_by_places(self):
        for name, (base, fields) in KINDS.items():
            with self.subTest(name):
                things = [[field, 1] for field in fields]
                made = getattr(errors, name)(*things)
                for field, thing in zip(fields, things):
                    self.assertIs(getattr(made, field), thing)

    def test_fields_are_set_by_names(self):
        for name, (base, fields) in KINDS.items():
            with self.subTest(name):
                made = getattr(errors, name)(**{field: field + "!" for field in fields})
                self.assertEqual(vars(made), {field: field + "!" for field in fields})

    def test_each_is_raised_and_has_a_text(self):
        for name, (base, fields) in KINDS.items():
            with self.subTest(name), self.assertRaises(base) as caught:
                raise getattr(errors, name)(*fields)
            self.assertIsInstance(str(caught.exception), str)

    def test_fields_keep_any_thing_as_it_was_handed_in(self):
        for thing in (None, True, 0, -5, "", "x y", (), [1], {"a": []}, ((), [None])):
            self.assertIs(errors.NoRoom(thing).name, thing)
            self.assertIs(errors.NoName(thing).name, thing)
            self.assertIs(errors.NoNumber(thing).word, thing)
            made = errors.NoWord(thing, thing)
            self.assertIs(made.at, thing)
            self.assertIs(made.word, thing)
