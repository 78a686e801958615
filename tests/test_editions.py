"""Points 2 and 15: editions, told and put into machines."""

import unittest

from anystore.editions import swapped
from anystore.errors import NoEdition, NoRoom, NotLet, TooMany
from anystore.looker import breaks, looked
from anystore.machines import Machine
from anystore.programs import Program, Room
from tests.samples import ASKED, CALL, HEAR, NO_NAMES, ONE, SAY, SET, TWO, X, X_IS_ZERO, ZERO, first, other, pair

MANY = 999999
BOXES = (("x", 7, 0), ("y", 2, 1))
SAYINGS = (("below", X, ("number", 7)), ("below", ("box", "y"), TWO))
PROMISE = ("below", ("told",), ("number", 6))
FIELDS = dict(
    above="main", boxes=BOXES, sayings=SAYINGS, ask=5, told=(6, X), promise=PROMISE,
    body=(SET, ("for", ASKED, 3, (SAY,))))
PROGRAM = Program((first((SET, CALL, CALL)), Room("sub", **FIELDS), other((), name="two")))


def edition(**more):
    return Room("sub", **{**FIELDS, **more})


class SwappedTest(unittest.TestCase):
    def test_another_body(self):
        room = edition(body=(HEAR,))
        told = swapped(PROGRAM, room)
        self.assertIsInstance(told, Program)
        self.assertEqual(told, Program((PROGRAM.rooms()[0], room, PROGRAM.rooms()[2])))
        self.assertEqual(PROGRAM.room_of("sub"), edition())

    def test_another_expression_of_told(self):
        room = edition(told=(6, ("plus", ASKED, ("box", "y"))))
        self.assertEqual(swapped(PROGRAM, room).room_of("sub"), room)

    def test_the_same_room_again(self):
        for room in PROGRAM.rooms():
            self.assertEqual(swapped(PROGRAM, room), PROGRAM)
        self.assertEqual(swapped(PROGRAM, edition()), PROGRAM)

    def test_the_first_room(self):
        room = first((("call", "x", "two", ONE),))
        self.assertEqual(swapped(PROGRAM, room).rooms(), (room, *PROGRAM.rooms()[1:]))

    def test_by_places_and_by_names(self):
        room = edition(body=())
        self.assertEqual(swapped(program=PROGRAM, room=room), swapped(PROGRAM, room))

    def test_no_room(self):
        for name in (*NO_NAMES[:8], "low", "mai", ("sub",), ["sub"], {"sub": 1}, Room("sub"), PROGRAM):
            with self.assertRaises(NoRoom) as caught:
                swapped(PROGRAM, Room(name, **{**FIELDS, "above": None, "body": None}))
            self.assertIs(caught.exception.name, name)


class NoEditionTest(unittest.TestCase):
    WRONG = {
        "above": ("", "two", None, 0, ("main",), ["main"]),
        "boxes": (
            (), BOXES[:1], BOXES[::-1], (("x", 8, 0), ("y", 2, 1)), (("x", 7, 1), ("y", 2, 1)), list(BOXES), None,
            (["x", 7, 0], ("y", 2, 1)), (("x", 7, False), ("y", 2, 1)), (("x", 7, 0), ("y", 2, True)),
            (("x", 7, 0, 0), ("y", 2, 1)), (("z", 7, 0), ("y", 2, 1)), {}, "x"),
        "sayings": (
            (), SAYINGS[:1], SAYINGS[::-1], SAYINGS[0], list(SAYINGS), None,
            (("below", X, ("number", 6)), SAYINGS[1]), (["below", X, ("number", 7)], SAYINGS[1])),
        "ask": (4, 6, None, "5", (5,), 5000, 0),
        "told": ((5, X), (7, X), None, (), (6,), (6, X, X), [6, X], 6, ("6", X), {}),
        "promise": (None, ("below", ("told",), ("number", 5)), ["below", ("told",), ("number", 6)], True, ()),
        "body": (
            None, [], (None,), ("set",), (("set", "z", ONE),), (("call", "x", "two", ONE),), (("jump", "x"),),
            (["set", "x", ONE],), (("set", "x", ("told",)),), (SET,) * 13, [SET], {}, "set", Room("sub")),
    }

    def refused(self, why, room, program=PROGRAM):
        with self.assertRaises(NoEdition) as caught:
            swapped(program, room)
        self.assertEqual(caught.exception.why, why)

    def test_one_word_put_otherwise(self):
        for why, things in self.WRONG.items():
            for thing in things:
                with self.subTest(why, thing=thing):
                    self.refused(why, edition(**{why: thing}))

    def test_two_at_once(self):
        words = list(self.WRONG)
        for at, why in enumerate(words):
            for later in words[at + 1:]:
                self.refused(why, edition(**{why: self.WRONG[why][0], later: self.WRONG[later][0]}))

    def test_another_bound_of_told_and_another_expression(self):
        self.refused("told", edition(told=(5, ("box", "z"))))
        for wrong in (("box", "z"), ("told",), None, 3, ["box", "x"], ("number", True), ("number", 1000), X_IS_ZERO):
            self.refused("body", edition(told=(6, wrong)))
            self.refused("promise", edition(told=(6, wrong), promise=None))

    def test_truths_are_no_numbers(self):
        boxes = (("x", 2, 1), ("y", 1, 0))
        program = Program((
            first((("call", "x", "sub", ZERO),)),
            Room("sub", above="main", boxes=boxes, sayings=(("is", X, ONE),), ask=1, told=(1, X),
                 promise=("is", ("told",), ZERO))))
        more = dict(above="main", boxes=boxes, sayings=(("is", X, ONE),), ask=1, told=(1, X),
                    promise=("is", ("told",), ZERO))
        self.assertEqual(swapped(program, Room("sub", **more)), program)
        for why, thing in (
                ("boxes", (("x", 2, True), ("y", 1, 0))), ("boxes", (("x", 2, 1), ("y", True, False))),
                ("sayings", (("is", X, ("number", True)),)), ("ask", True), ("told", (True, X)),
                ("promise", ("is", ("told",), ("number", False))), ("body", (("set", "x", ("number", True)),))):
            self.refused(why, Room("sub", **{**more, why: thing}), program)

    def test_the_first_room(self):
        for why, thing in (
                ("above", "sub"), ("ask", 1), ("ask", 0), ("told", (6, X)), ("told", ()), ("promise", PROMISE),
                ("promise", ()), ("body", (("set", "x", ASKED),))):
            fields = {"boxes": (("x", 7, 0),), "body": (SET,), why: thing}
            self.refused(why, Room("main", **fields))

    def test_the_program_stays(self):
        text = str(PROGRAM)
        for why, things in self.WRONG.items():
            self.refused(why, edition(**{why: things[0]}))
        self.assertEqual(str(PROGRAM), text)


class NotLetTest(unittest.TestCase):
    def test_a_saying_that_fails(self):
        program = Program((first((SET,), sayings=(("below", X, TWO),)),))
        room = first((("set", "x", TWO),), sayings=(("below", X, TWO),))
        with self.assertRaises(NotLet) as caught:
            swapped(program, room)
        self.assertEqual(caught.exception.run, looked(Program((room,))))
        self.assertTrue(breaks(Program((room,)), *caught.exception.run))

    def test_a_promise_that_fails(self):
        elder = other((), promise=("is", ("told",), ZERO), boxes=(("x", 1, 0),))
        program = Program((first((CALL,)), elder))
        room = Room("sub", above="main", boxes=(("x", 1, 0),), ask=5, told=(6, ONE), promise=("is", ("told",), ZERO))
        with self.assertRaises(NotLet) as caught:
            swapped(program, room)
        self.assertEqual(caught.exception.run, looked(Program((first((CALL,)), room))))
        self.assertIn(caught.exception.run, [("sub", ((0,), asked, ())) for asked in range(5)])

    def test_another_rooms_run(self):
        # The first room has never been let by; the edition is of the other one.
        program = Program((first((HEAR,), sayings=(X_IS_ZERO,)), other()))
        with self.assertRaises(NotLet) as caught:
            swapped(program, other((SET,)))
        self.assertEqual(caught.exception.run, looked(Program((program.rooms()[0], other((SET,))))))
        self.assertEqual(caught.exception.run[0], "main")
        self.assertTrue(breaks(program, *caught.exception.run))

    def test_the_same_room_of_a_program_that_is_not_let_by(self):
        program = Program((first((HEAR,), sayings=(X_IS_ZERO,)),))
        with self.assertRaises(NotLet) as caught:
            swapped(program, program.rooms()[0])
        self.assertEqual(caught.exception.run, looked(program))

    def test_too_many_ahead_of_not_let(self):
        boxes = tuple((box, 20, 0) for box in "abx")
        many = Room("sub", above="main", boxes=boxes, ask=1, told=(6, X))
        program = Program((first((HEAR,), sayings=(X_IS_ZERO,)), many))
        for room in program.rooms():
            with self.assertRaises(TooMany) as caught:
                swapped(program, room)
            self.assertEqual((caught.exception.room, caught.exception.many), ("sub", 8000))
        with self.assertRaises(NoEdition):
            swapped(program, Room("sub", above="main", boxes=boxes, ask=2, told=(6, X)))

    def test_an_edition_that_is_too_many(self):
        boxes = tuple((box, 20, 0) for box in "xy")
        program = Program((first((HEAR,), boxes=boxes),))
        self.assertEqual(swapped(program, first((HEAR,) * 12, boxes=boxes)).rooms()[0].body, (HEAR,) * 12)
        with self.assertRaises(TooMany) as caught:
            swapped(program, first((("if", X_IS_ZERO, (HEAR,) * 6, (HEAR,) * 6),), boxes=boxes))
        self.assertEqual((caught.exception.room, caught.exception.many), ("main", 5200))


class SwapTest(unittest.TestCase):
    """main: x; sub: a count, x, y, asked, told; places of sub: home, set, for, check, say, tell, told."""

    def machine(self, *words):
        machine = Machine(PROGRAM)
        for at, word in enumerate(words):
            machine.spoil(at, word)
        return machine

    def test_words_of_the_room_become_what_they_mean_by_the_elder_text(self):
        machine = self.machine(*[MANY] * 12)
        self.assertIsNone(machine.swap(edition(body=(("for", X, 1, (("for", X, 2, ()),)), HEAR, HEAR, HEAR))))
        self.assertEqual(
            machine.words(),
            (MANY, MANY, MANY % 7, 0, 0, MANY % 7, MANY % 2, MANY % 5, MANY % 6, MANY, MANY, MANY, MANY))
        self.assertEqual(machine.names()[2:6], [("sub", "place"), ("sub", "count", 0), ("sub", "count", 1),
                                                ("sub", "box", "x")])

    def test_as_many_counts_as_the_new_text_has(self):
        for body, counts in (((), ()), ((("for", X, 9, ()),), (0,)), ((("for", X, 1, ()), ("for", X, 1, ())), (0, 0))):
            machine = self.machine(3, 10, 3, 2, 3, 1, 4, 5, 1, 2, 3, 4)
            machine.swap(edition(body=body))
            self.assertEqual(machine.words(), (3, 10, 3, *counts, 3, 1, 4, 5, 1, 2, 3, 4))

    def test_a_place_beyond_the_new_text(self):
        machine = self.machine(0, 0, 6, 0, 0, 0, 0, 0)
        machine.swap(edition(body=()))
        self.assertEqual(machine.words()[2], 6)
        # home, tell, told: the word 6 means home now.
        self.assertEqual(machine.stand(), ((0, (), (0,), 0, 0), (0, (), (0, 0), 0, 0), (0, (), (0,), 0, 0)))

    def test_beats_done_and_firsts_taken_stay(self):
        program = Program((first((SET,), sayings=(("below", X, TWO),)),))
        machine = Machine(program)
        machine.spoil(1, 3)
        for beat in range(5):
            machine.beat()
        machine.swap(first((), sayings=(("below", X, TWO),)))
        self.assertEqual((machine.now(), machine.refills()), (5, (1,)))
        machine.beat()
        self.assertEqual((machine.now(), machine.refills()), (6, (1,)))

    def test_it_goes_on_by_the_new_text(self):
        machine = Machine(pair((CALL,), ()))
        machine.swap(other((("say", "x", ("number", 7)),)))
        said = [machine.beat() for beat in range(4)]
        self.assertEqual(said, [(), (), (("sub", 7),), ()])

    def test_refused_ones_change_nothing(self):
        machine = self.machine(*range(90, 102))
        machine.beat()
        machine.spoil(3, 77)
        ahead = (machine.words(), machine.program(), machine.now(), machine.refills(), machine.names())
        for error, room in (
                (NoRoom, Room("low")), (NoEdition, edition(ask=4)), (NoEdition, edition(body=None)),
                (TooMany, edition(body=(("for", X, 9, (("for", X, 9, (SET,)),)),)))):
            with self.assertRaises(error):
                machine.swap(room)
            self.assertEqual(
                (machine.words(), machine.program(), machine.now(), machine.refills(), machine.names()), ahead)

    def test_not_let_changes_nothing(self):
        program = Program((first((SET,), sayings=(("below", X, TWO),)),))
        machine = Machine(program)
        machine.spoil(0, 7)
        with self.assertRaises(NotLet):
            machine.swap(first((HEAR,), sayings=(("below", X, TWO),)))
        self.assertEqual((machine.words(), machine.program()), ((7, 0), program))

    def test_the_elder_program_stays(self):
        program = pair((CALL,), (SET,))
        machine = Machine(program)
        machine.swap(other((HEAR,)))
        self.assertEqual(program, pair((CALL,), (SET,)))
        self.assertEqual(machine.program(), pair((CALL,), (HEAR,)))
        self.assertEqual(Machine(program).program(), pair((CALL,), (SET,)))
