"""Points 2, 6 and 7: rooms and programs."""

import unittest

from anystore.errors import NoProgram, NoRoom
from anystore.programs import Program, Room
from anystore.writing import program_text
from tests.samples import (
    ASKED, CALL, HEAR, NO_NAMES, ONE, SAY, SET, TOLD, X, X_IS_ZERO, ZERO, alone, first, other, pair)

FIELDS = {
    "name": "sub", "above": "main", "boxes": (("x", 7, 0),), "sayings": (X_IS_ZERO,), "ask": 5, "told": (6, X),
    "promise": ("is", TOLD, TOLD), "body": (SET, ("if", X_IS_ZERO, (HEAR,), (SAY, ("for", X, 3, (SET,))))),
}
STRANGE = (True, -1, 3, "", "x", (), (1,), [], [()], {}, {"x": 1}, ((),), ([],), Room("x"), (Room(()),))


class RoomTest(unittest.TestCase):
    def test_fields(self):
        room = Room(**FIELDS)
        self.assertEqual(vars(room), FIELDS)
        self.assertEqual(vars(Room("a")), {
            "name": "a", "above": "", "boxes": (), "sayings": (), "ask": None, "told": None, "promise": None,
            "body": ()})

    def test_behind_the_star_by_name_alone(self):
        with self.assertRaises(TypeError):
            Room("a", "")

    def test_made_of_any_things(self):
        for thing in STRANGE:
            room = Room(**{field: thing for field in FIELDS})
            for field in FIELDS:
                self.assertIs(getattr(room, field), thing)

    def test_equal(self):
        self.assertEqual(Room(**FIELDS), Room(**FIELDS))
        self.assertFalse(Room(**FIELDS) != Room(**FIELDS))
        for field in FIELDS:
            self.assertNotEqual(Room(**FIELDS), Room(**{**FIELDS, field: ("else",)}))
        for thing in (None, "sub", 0, (), tuple(FIELDS.values()), Program((Room("a"),))):
            self.assertFalse(Room(**FIELDS) == thing)
            self.assertTrue(Room(**FIELDS) != thing)

    def test_len(self):
        self.assertEqual(len(Room("a")), 0)
        self.assertEqual(len(Room(**FIELDS)), 6)
        self.assertEqual(len(first((SET, SET, ("if", X_IS_ZERO, (), ())))), 3)

    def test_repr(self):
        self.assertEqual(repr(Room("abc")), "Room(abc)")


class ProgramTest(unittest.TestCase):
    def test_rooms(self):
        rooms = (first((CALL,)), other(), other(name="low", above="sub"), other(name="next"))
        program = Program(rooms=rooms)
        self.assertEqual(program.rooms(), rooms)
        self.assertIs(type(program.rooms()), tuple)
        self.assertEqual(program.room_of("low"), rooms[2])
        self.assertEqual(program.room_of(name="main"), rooms[0])
        self.assertEqual(program.beneath("main"), ["sub", "next"])
        self.assertEqual(program.beneath(name="sub"), ["low"])
        self.assertEqual(program.beneath("low"), [])
        program.beneath("main").clear()
        self.assertEqual(program.beneath("main"), ["sub", "next"])

    def test_no_room(self):
        program = pair((CALL,))
        for thing in NO_NAMES:
            for asked in (program.room_of, program.beneath):
                with self.assertRaises(NoRoom) as caught:
                    asked(thing)
                self.assertIs(caught.exception.name, thing)

    def test_equal_len_str_repr(self):
        program = pair((CALL,))
        self.assertEqual(program, pair((CALL,)))
        self.assertNotEqual(program, pair((SET,)))
        self.assertNotEqual(program, alone(()))
        self.assertFalse(program != pair((CALL,)))
        for thing in (None, True, 2, "", str(program), program.rooms(), list(program.rooms()), {}, program.rooms()[0]):
            self.assertFalse(program == thing)
            self.assertTrue(program != thing)
        self.assertFalse(Program((Room("a"),)) == Room("a"))
        self.assertFalse(Room("a") == Program((Room("a"),)))
        self.assertEqual(len(program), 2)
        self.assertEqual(str(program), program_text(program))
        self.assertEqual(repr(program), "Program(2)")


def main_with(**more):
    return Room(**{**{"name": "main", "boxes": (("x", 7, 0), ("y", 2, 1))}, **more})


def sub_with(**more):
    return Room(**{**FIELDS, **more})


def deep_if(deep):
    return ("if", X_IS_ZERO, () if deep == 1 else (deep_if(deep - 1),), ())


def deep_plus(deep):
    return X if deep == 1 else ("plus", deep_plus(deep - 1), ONE)


def full_plus(deep):
    return X if deep == 1 else ("plus", full_plus(deep - 1), full_plus(deep - 1))


class NoProgramTest(unittest.TestCase):
    def refused(self, rooms, room, why):
        with self.assertRaises(NoProgram) as caught:
            Program(rooms)
        self.assertEqual((caught.exception.room, caught.exception.why), (room, why))

    def main_refused(self, why, *things):
        for thing in things:
            self.refused((main_with(**{why: thing}), sub_with()), 0, why)

    def sub_refused(self, why, *things):
        for thing in things:
            self.refused((main_with(), sub_with(**{why: thing})), 1, why)

    def let(self, **more):
        Program((main_with(), sub_with(**more)))

    def test_rooms(self):
        for thing in (None, 1, "", (), [], [Room("a")], {"a": Room("a")}, Room("a"), (Room("a"), None), ("room a",)):
            self.refused(thing, -1, "rooms")
        rooms = [Room(name, above="" if name == "a" else "a", ask=1, told=(1, ASKED)) for name in "abcdefghi"]
        rooms[0] = Room("a")
        Program(tuple(rooms[:8]))
        self.refused(tuple(rooms), -1, "rooms")

    def test_name(self):
        wrong = (None, 1, True, "", "A", "a1", "a b", "abcdefghi", "asked", "told", "not", "and", "or", ("a",), ["a"], {})
        self.main_refused("name", *wrong)
        self.sub_refused("name", "main", *wrong)
        for name in ("a", "abcdefgh", "ask", "tolds", "is"):
            self.let(name=name)

    def test_above(self):
        self.main_refused("above", None, "main", "sub", (), [], 0)
        self.sub_refused("above", None, "", "sub", "nobody", (), ["main"], {"main": 1}, 0, Room("main"))
        rooms = [main_with()]
        for name, above in (("a", "main"), ("b", "a"), ("c", "b"), ("d", "c")):
            rooms.append(sub_with(name=name, above=above))
        Program(tuple(rooms[:4]))
        self.refused(tuple(rooms), 4, "above")

    def test_above_with_strange_names_behind(self):
        for thing in ([], {}, None, Room("a")):
            self.refused((main_with(), sub_with(), sub_with(name=thing)), 2, "name")

    def test_boxes(self):
        wrong = (
            None, [], {}, "", (1,), ("x",), (("x", 7),), (("x", 7, 0, 0),), (["x", 7, 0],), (("X", 7, 0),),
            (("told", 7, 0),), (("x", 0, 0),), (("x", 41, 0),), (("x", True, 0),), (("x", 7, False),), (("x", 7, 7),),
            (("x", 7, -1),), (("x", 7, None),), (("x", None, 0),), (("x", 7, 0), ("x", 7, 0)),
            (("x", 7, 0), ("a", 7, 0)), (("a", 2, 0), ("b", 2, 0), ("c", 2, 0), ("d", 2, 0), ("x", 7, 0)))
        self.main_refused("boxes", *wrong)
        self.sub_refused("boxes", *wrong)
        self.let(boxes=(("a", 1, 0), ("b", 40, 39), ("x", 7, 0), ("xx", 7, 0)))

    def test_sayings(self):
        wrong = (
            None, [], {}, X_IS_ZERO, (X,), ([],), ((),), (("is", X),), (("is", X, ("number", 1)),), (("not", X_IS_ZERO),),
            (("is", X, ("box", "z")),), (("is", ASKED, ZERO),), (("is", TOLD, ZERO),), (["is", X, ZERO],),
            (("is", X, ("number", False)),), (("is", X, ("number", -1)),), (("below", X, ("number", 1000)),),
            ((["is"], X, ZERO),), (X_IS_ZERO,) * 5, (("either", X_IS_ZERO, ("is", ASKED, ZERO)),))
        self.main_refused("sayings", *wrong)
        self.sub_refused("sayings", *wrong)
        self.let(sayings=(X_IS_ZERO,) * 4)
        self.let(sayings=())

    def test_how_deep_and_many_terms(self):
        self.let(told=(6, deep_plus(5)))
        self.sub_refused("told", (6, deep_plus(6)))
        self.let(told=(6, full_plus(4)))
        self.sub_refused("told", (6, full_plus(5)))
        self.let(sayings=(("is", ("times", deep_plus(3), ZERO), ZERO),))
        self.sub_refused("sayings", (("is", ("times", deep_plus(4), ZERO), ZERO),))
        tests = ("both", ("both", X_IS_ZERO, X_IS_ZERO), ("both", X_IS_ZERO, X_IS_ZERO))
        self.let(sayings=(tests,))
        wide = ("both", ("both", X_IS_ZERO, X_IS_ZERO), ("both", X_IS_ZERO, ("is", X, ("plus", X, X))))
        self.sub_refused("sayings", (wide,))

    def test_forms_of_terms(self):
        same = ("is", X, X)
        for saying in (
                ("is", ("number", 999), ("number", 999)), ("is", ("number", 0), X), ("either", same, ("below", X, X)),
                ("not", ("not", same)), ("both", same, ("below", X, ONE))):
            self.let(sayings=(saying,))
        self.sub_refused(
            "sayings", (("is", ("number", 1000), ("number", 1000)),), (("is", ("number", -1), ("number", -1)),),
            (("is", ("number", 0, 0), ZERO),), (("is", ("number",), ZERO),), (("is", ("box", "x", "x"), X),),
            (("not",),), (("not", ("below", X, X), same),), (("not", X),), (("both", same),), (("both", same, same, same),),
            (("either", same, same, same),), (("either", same, X),), (("is", X, X, X),), (("is", same, same),))

    def test_how_deep_tests(self):
        same = ("is", X, X)
        self.let(promise=("not", ("not", ("not", ("below", TOLD, ASKED)))))
        self.let(sayings=(("both", ("both", ("is", ("plus", X, ZERO), X), same), same),))
        deep = ("not", ("not", ("not", ("not", same))))
        self.sub_refused(
            "sayings", (deep,), (("not", ("not", deep)),), (("not", ("not", ("not", ("is", X, ("plus", X, ONE))))),),
            (("not", ("not", ("not", ("not", ("not", ("below", X, X)))))),),
            (("both", ("both", ("is", ("plus", ("plus", X, ZERO), ZERO), X), same), same),))
        self.sub_refused("promise", ("not", ("not", ("not", ("not", ("below", TOLD, ASKED))))))

    def test_sixteen_terms(self):
        self.let(sayings=(("not", ("below", full_plus(3), full_plus(3))),))
        self.sub_refused("sayings", (("not", ("not", ("below", full_plus(3), full_plus(3)))),))

    def test_ask(self):
        self.main_refused("ask", 1, 0, True, (), [])
        self.sub_refused("ask", None, 0, 41, -1, True, "1", (), [1])
        self.let(ask=1)
        self.let(ask=40)

    def test_told(self):
        self.main_refused("told", (6, X), (), 0, [])
        self.sub_refused(
            "told", None, (), (6,), [6, X], (6, X, X), (0, X), (41, X), (True, X), (6, None), (6, "x"), (6, ("box", "z")),
            (6, TOLD), (6, X_IS_ZERO), (6, [X]), (6, ("box", ["x"])), (6, ("asked", 1)), (6, ("plus", X)),
            (6, ("plus", X, X, X)), (6, ("minus", X, X)), (6, (["plus"], X, X)))
        self.let(told=(1, ("rest", ASKED, X)))
        self.let(told=(40, X))

    def test_promise(self):
        self.main_refused("promise", ("is", TOLD, TOLD), (), False)
        self.sub_refused("promise", (), [], True, TOLD, ("is", TOLD, X), ("is", TOLD), ("is", TOLD, ("number", 1000)))
        self.let(promise=None)
        self.let(promise=("below", TOLD, ("plus", ASKED, ONE)))

    def test_body(self):
        wrong = (
            None, [], {}, "", (None,), ((),), SET, ([],), (["set", "x", ONE],), (("set", "z", ONE),), (("set", "x"),),
            (("set", "x", TOLD),), (("set", "x", X_IS_ZERO),), (("set", "x", ONE, ONE),), (("set", ["x"], ONE),),
            (("hear",),), (("hear", "z"),), (("hear", "x", ONE),), (("say", "x"),), (("say", "z", ONE),),
            (("if", X, (), ()),), (("if", X_IS_ZERO, ()),), (("if", X_IS_ZERO, (), None),),
            (("if", X_IS_ZERO, [], ()),), (("if", X_IS_ZERO, (("hear", "z"),), ()),), (("for", X, 0, ()),),
            (("for", X, 10, ()),), (("for", X, True, ()),), (("for", X_IS_ZERO, 3, ()),), (("for", X, 3, SET),),
            (("for", X, 3),), (("while", X_IS_ZERO, ()),), ((["set"], "x", ONE),), (("call", "x", "nobody", X),),
            (("call", "x", "main", X),), (("call", "x", [], X),), (("call", "x", "sub"),), (SET,) * 13, (("if", X_IS_ZERO, (), (SET,) * 13),))
        self.main_refused("body", *wrong)
        self.sub_refused("body", *wrong)
        self.main_refused("body", (("set", "x", ASKED),), (("call", "z", "sub", X),), (("call", "x", "sub", TOLD),),
                          (("call", "x", "sub", X, X),), (("call", "x", "sub"),))
        self.sub_refused("body", (CALL,))
        self.let(body=(("set", "x", ASKED),) * 12)

    def test_calls_reach_right_beneath_alone(self):
        low = sub_with(name="low", above="sub")
        call = (("call", "x", "low", X),)
        Program((main_with(body=(CALL,)), sub_with(body=call), low))
        self.refused((main_with(body=call), sub_with(), low), 0, "body")
        self.refused((main_with(), sub_with(), sub_with(name="low", body=(CALL,))), 2, "body")

    def test_how_deep_fors(self):
        deep = ("for", X, 9, ())
        for most in (1, 2, 3):
            deep = ("for", X, most, (deep,))
        self.let(body=(deep,))
        self.sub_refused("body", (("for", X, 4, (deep,)),), (("if", X_IS_ZERO, (), (deep,)),))

    def test_how_deep_and_many_steps(self):
        self.let(body=(deep_if(4),))
        self.sub_refused("body", (deep_if(5),))
        wide = ("for", X, 2, (SET,) * 9)
        self.let(body=(wide,) * 3)
        self.sub_refused("body", (wide,) * 3 + (SET,))

    def test_any_things_in_each_field(self):
        """Told is the room and the word, whatever stands there, however deep."""
        things = [
            *STRANGE, None, False, 10 ** 29, -1, "x" * 20000, "x~ \n", Program((Room("a"),)), NoProgram(0, "name")]
        things += [(thing,) for thing in things] + [[thing] for thing in things] + [(thing, thing) for thing in things]
        right = {"above": ("",), "boxes": ((),), "sayings": ((),), "body": ((),), "promise": (None,), "name": ("x",),
                 "ask": (None, 3), "told": (None,)}
        for why in FIELDS:
            for thing in things:
                if thing in right[why] and not isinstance(thing, bool):
                    continue
                self.main_refused(why, thing)
                self.sub_refused(why, thing)

    def test_any_things_within_terms_steps_and_boxes(self):
        for thing in (
                None, True, False, -1, 41, 10 ** 29, "", "Z", "told", "not", (1,), ((),), [], [()], {}, {"x": 1},
                Room("x"), ("number",), ("number", True), ("number", 1000), ("box", "z"), ["box", "x"],
                ("is", ("box", "z"), ZERO)):
            self.sub_refused("boxes", (thing,), ((thing, 7, 0),), (("x", thing, 0),), (("x", 7, thing),))
            self.sub_refused("sayings", (thing,), ((thing, X, X),), (("is", X, thing),), (("not", thing),))
            self.sub_refused("told", thing, (thing, X), (6, thing), (6, (thing, X, X)), (6, ("plus", X, thing)),
                             (6, ("box", thing)))
            self.sub_refused("promise", ("is", TOLD, thing), (thing, TOLD, TOLD), ("both", ("is", TOLD, TOLD), thing))
            self.sub_refused(
                "body", thing, (thing,), ((thing, "x", ONE),), (("set", "x", thing),), (("set", thing, ONE),),
                (("if", thing, (), ()),), (("if", X_IS_ZERO, thing, ()),), (("if", X_IS_ZERO, (), thing),),
                (("for", thing, 3, ()),), (("for", X, thing, ()),), (("for", X, 3, thing),), (("hear", thing),),
                (("say", thing, X),), (SET, thing, SET), (("if", X_IS_ZERO, (SET, thing), ()),))
            self.main_refused(
                "body", (("call", thing, "sub", X),), (("call", "x", thing, X),), (("call", "x", "sub", thing),))

    def test_two_faults_at_once(self):
        words = list(FIELDS)
        for at, why in enumerate(words):
            for later in words[at:]:
                fields = {why: ([],), later: ([],)}
                self.refused((main_with(), sub_with(**fields)), 1, why)
                self.refused((main_with(**fields), sub_with()), 0, why)
                self.refused((main_with(**{later: ([],)}), sub_with(**{why: ([],)})), 0, later)
        rooms = tuple(sub_with(name=name) for name in "abcdefg")
        for at in range(7):
            spoilt = [main_with(), *rooms]
            for number in range(at, 7):
                spoilt[number + 1] = sub_with(name="abcdefg"[number], ask=number % 2 * 41)
            self.refused(tuple(spoilt), at + 1, "ask")

    def test_rooms_behind_are_looked_at_later(self):
        """A call of a room right beneath is right; what is wrong in that one is its own."""
        call = main_with(body=(CALL,))
        Program((call, sub_with()))
        self.refused((call, sub_with(boxes=(), sayings=())), 1, "told")
        self.refused((call, sub_with(ask=0)), 1, "ask")
        self.refused((call, sub_with(name="other")), 0, "body")
        self.refused((call, sub_with(above="")), 0, "body")
        self.refused((call, sub_with(name="a"), sub_with(above="a")), 0, "body")

    def test_the_first_fault_is_told(self):
        fields = dict.fromkeys(FIELDS, ([],))
        for why, right in FIELDS.items():
            self.refused((main_with(), Room(**fields), Room(None)), 1, why)
            fields[why] = right
        Program((main_with(), Room(**fields)))
        self.refused((main_with(body=None), Room(None)), 0, "body")
