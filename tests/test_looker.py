"""Points 2, 18 and 19: runs, and the looker that goes through them."""

import unittest

from anystore.errors import NoRoom, NoRun, TooMany
from anystore.looker import breaks, looked, run_end, stands_many
from anystore.programs import Program, Room
from tests.chance import small_programs
from tests.runs import Runs
from tests.samples import (
    ASKED, CALL, HEAR, NO_NAMES, ONE, SAY, SET, TOLD, TWO, X, X_IS_ZERO, ZERO, alone, first, other, pair)


def number(n):
    return ("number", n)


class RunCase(unittest.TestCase):
    def ends(self, program, name, run, end):
        self.assertEqual(run_end(program, name, run), end)

    def none(self, program, name, *runs):
        for run in runs:
            with self.subTest(run=run):
                with self.assertRaises(NoRun):
                    run_end(program, name, run)
                self.assertIs(breaks(program, name, run), False)


class EndTest(RunCase):
    def test_an_empty_body(self):
        self.ends(alone(()), "main", ((3,), 0, ()), ((3,), None))
        self.ends(pair(), "sub", ((3,), 4, ()), ((3,), 3))
        self.ends(Program((Room("a"),)), "a", ((), 0, ()), ((), None))

    def test_set_and_if(self):
        body = (("if", X_IS_ZERO, (("set", "x", number(12)),), (SET, ("set", "x", ("plus", X, X)))),)
        self.ends(alone(body), "main", ((0,), 0, ()), ((5,), None))
        self.ends(alone(body), "main", ((4,), 0, ()), ((2,), None))
        self.none(alone(body), "main", ((0,), 0, (0,)), ((4,), 0, (1,)))

    def test_hear(self):
        for given in range(7):
            self.ends(alone((HEAR,)), "main", ((3,), 0, (given,)), ((given,), None))
        self.none(alone((HEAR,)), "main", ((3,), 0, ()), ((3,), 0, (7,)), ((3,), 0, (-1,)), ((3,), 0, (1, 1)))
        least = alone((HEAR,), boxes=(("x", 1, 0),))
        self.ends(least, "main", ((0,), 0, (0,)), ((0,), None))
        self.none(least, "main", ((0,), 0, (1,)))

    def test_say(self):
        for given in (0, 1):
            self.ends(alone((SAY,)), "main", ((3,), 0, (given,)), ((given,), None))
        self.none(alone((SAY,)), "main", ((3,), 0, (2,)), ((3,), 0, (True,)), ((3,), 0, ()), ((3,), 0, (0, 0)))
        least = alone((SAY,), boxes=(("x", 1, 0),))
        self.ends(least, "main", ((0,), 0, (0,)), ((0,), None))
        self.none(least, "main", ((0,), 0, (1,)))
        two = alone((SAY,), boxes=(("x", 2, 0),))
        self.ends(two, "main", ((0,), 0, (1,)), ((1,), None))

    def test_call_without_a_promise(self):
        program = pair((CALL,))
        for given in range(6):
            self.ends(program, "main", ((3,), 0, (given,)), ((given,), None))
        self.none(program, "main", ((3,), 0, ()), ((3,), 0, (6,)), ((3,), 0, (-1,)), ((3,), 0, (None,)))

    def test_what_is_told_is_taken_by_the_rest_of_the_box(self):
        program = Program((first((CALL,), boxes=(("x", 4, 0),)), other()))
        for given in range(6):
            self.ends(program, "main", ((3,), 0, (given,)), ((given % 4,), None))

    def test_call_with_a_promise(self):
        # Asked is the rest of x by 5; told is below 6.
        program = Program((first((CALL,)), other(promise=("is", TOLD, ("plus", ASKED, ONE)))))
        for x in range(7):
            for given in range(6):
                if given == x % 5 + 1:
                    self.ends(program, "main", ((x,), 0, (given,)), ((given,), None))
                else:
                    self.none(program, "main", ((x,), 0, (given,)))

    def test_a_promise_that_no_number_keeps(self):
        program = Program((first((("if", X_IS_ZERO, (CALL,), ()),)), other(promise=("is", TOLD, number(9)))))
        self.none(program, "main", *[((0,), 0, (given,)) for given in range(12)], ((0,), 0, ()))
        self.ends(program, "main", ((1,), 0, ()), ((1,), None))

    def test_for(self):
        program = alone((("for", X, 3, (HEAR, ("set", "x", ("plus", X, ONE)))),))
        self.ends(program, "main", ((0,), 0, ()), ((0,), None))
        self.ends(program, "main", ((4,), 0, ()), ((4,), None))
        self.ends(program, "main", ((3,), 0, (1, 2, 6)), ((0,), None))
        self.ends(program, "main", ((5,), 0, (2,)), ((3,), None))
        self.none(program, "main", ((3,), 0, (1, 2)), ((3,), 0, (1, 2, 6, 6)), ((0,), 0, (0,)))

    def test_fors_within_fors(self):
        program = alone((("for", number(9), 9, (("for", number(9), 9, (("for", number(9), 9, (HEAR,)),)),)),))
        given = tuple(k % 7 for k in range(729))
        self.ends(program, "main", ((0,), 0, given), ((728 % 7,), None))
        self.none(program, "main", ((0,), 0, given[1:]), ((0,), 0, given + (0,)))

    def test_asked_and_told(self):
        program = pair((CALL,), (("set", "x", ("plus", ASKED, number(5))),))
        for asked in range(5):
            x = (asked + 5) % 7
            self.ends(program, "sub", ((0,), asked, ()), ((x,), x % 6))
        self.none(program, "sub", ((0,), 5, ()), ((0,), -1, ()), ((0,), None, ()), ((0,), True, ()), ((0,), "1", ()))
        self.none(program, "main", ((0,), 1, (0,)), ((0,), None, (0,)), ((0,), False, (0,)))
        self.ends(program, "main", ((0,), 0, (0,)), ((0,), None))

    def test_told_by_its_expression(self):
        program = Program((first((CALL,)), Room("sub", above="main", ask=9, told=(5, ("times", ASKED, ASKED)))))
        for asked in range(9):
            self.ends(program, "sub", ((), asked, ()), ((), asked * asked % 5))

    def test_in_order(self):
        boxes = (("a", 5, 0), ("b", 2, 0), ("c", 9, 0))
        body = (("hear", "c"), ("say", "b", ZERO), ("call", "a", "sub", ("box", "c")), ("hear", "b"))
        program = Program((first(body, boxes=boxes), other(promise=("is", TOLD, ASKED))))
        self.ends(program, "main", ((0, 0, 0), 0, (8, 1, 3, 0)), ((3, 0, 8), None))
        self.none(program, "main", ((0, 0, 0), 0, (8, 1, 8, 0)), ((0, 0, 0), 0, (8, 2, 3, 0)), ((0, 0, 0), 0, (8, 1, 3)))

    def test_boxes(self):
        program = alone((SET,), boxes=(("x", 7, 1), ("y", 2, 0)), sayings=(("below", ("box", "y"), X),))
        self.ends(program, "main", ((1, 0), 0, ()), ((1, 0), None))
        self.ends(program, "main", ((6, 1), 0, ()), ((1, 1), None))
        # Without a saying, at a bound, and such as are no boxes of the room.
        self.none(
            program, "main", ((1, 1), 0, ()), ((0, 0), 0, ()), ((7, 0), 0, ()), ((6, 2), 0, ()), ((6, -1), 0, ()),
            ((6,), 0, ()), ((6, 0, 0), 0, ()), ([6, 0], 0, ()), ((6, False), 0, ()), ((True, 0), 0, ()),
            ((6, None), 0, ()), (("6", 0), 0, ()), (None, 0, ()), (6, 0, ()), ("60", 0, ()), ({}, 0, ()))

    def test_any_things(self):
        program = alone((HEAR,))
        self.none(
            program, "main", None, True, 0, "", "run", (), [], {}, ((3,), 0), ((3,), 0, (1,), ()), [(3,), 0, (1,)],
            ((3,), 0, [1]), ((3,), 0, None), ((3,), 0, 1), ((3,), 0, "1"), ((3,), 0, (None,)), ((3,), 0, ((1,),)),
            ((3,), 0, ([],)), ((3,), 0, ({},)), ((3,), 0, ("1",)), ((3,), 0, (True,)), ((3,), 0, (10 ** 29,)),
            ((3,), [], (1,)), ((3,), {}, (1,)), ((3,), (0,), (1,)), program, Room("main"), (program,) * 3,
            ("main", ((3,), 0, (1,))))

    def test_no_room_ahead_of_no_run(self):
        program = alone((HEAR,))
        for name in (*NO_NAMES[:10], "sub", ["main"], {}, program):
            for run in (((3,), 0, (1,)), None, 3):
                for asked in (run_end, breaks):
                    with self.assertRaises(NoRoom) as caught:
                        asked(program, name, run)
                    self.assertIs(caught.exception.name, name)

    def test_kinds(self):
        told = run_end(pair(), "sub", ((3,), 4, ()))
        self.assertEqual([type(part) for part in (told, told[0], told[1])], [tuple, tuple, int])


class BreaksTest(unittest.TestCase):
    def test_by_a_saying(self):
        program = alone((HEAR,), sayings=(("below", X, TWO), ("below", X, number(5))))
        for given in range(7):
            self.assertIs(breaks(program, "main", ((1,), 0, (given,))), given >= 2)

    def test_by_the_promise(self):
        sub = Room("sub", above="main", ask=5, told=(6, ("plus", ASKED, ONE)), promise=("below", TOLD, number(4)))
        program = Program((first((CALL,)), sub))
        for asked in range(5):
            self.assertIs(breaks(program, "sub", ((), asked, ())), asked + 1 >= 4)

    def test_without_sayings_and_promise(self):
        self.assertIs(breaks(pair((CALL,), (HEAR,)), "sub", ((0,), 0, (3,))), False)
        self.assertIs(breaks(pair((CALL,), (HEAR,)), "main", ((0,), 0, (3,))), False)

    def test_by_a_saying_of_another_room(self):
        sub = Room("sub", above="main", boxes=(("x", 7, 1),), sayings=(("is", X, ONE),), ask=5, told=(6, X), body=(HEAR,))
        program = Program((first((CALL,)), sub))
        self.assertIs(breaks(program, "sub", ((1,), 0, (1,))), False)
        self.assertIs(breaks(program, "sub", ((1,), 0, (2,))), True)
        self.assertIs(breaks(program, "sub", ((2,), 0, (2,))), False)

    def test_by_places_and_by_names(self):
        program = alone((HEAR,), sayings=(("below", X, TWO),))
        self.assertIs(breaks(thing=((1,), 0, (5,)), program=program, name="main"), True)
        self.assertEqual(run_end(run=((1,), 0, (5,)), program=program, name="main"), ((5,), None))
        self.assertEqual(stands_many(name="main", program=program), 7)
        self.assertEqual(looked(program=program), looked(program))


class StandsTest(unittest.TestCase):
    def test_without_boxes(self):
        self.assertEqual(stands_many(Program((Room("a"),)), "a"), 0)
        program = Program((Room("a"), Room("b", above="a", ask=1, told=(1, ZERO)), Room("c", above="a", ask=40, told=(9, ZERO))))
        self.assertEqual(stands_many(program, "b"), 1)
        self.assertEqual(stands_many(program, "c"), 40)

    def test_an_empty_first_room_has_none(self):
        boxes = tuple((box, 40, 0) for box in "abcd")
        program = alone((), boxes=boxes)
        self.assertEqual(stands_many(program, "main"), 0)
        self.assertIsNone(looked(program))

    def test_boxes_and_places(self):
        boxes = (("x", 7, 0), ("y", 3, 0))
        self.assertEqual(stands_many(alone((SET, HEAR, SAY), boxes=boxes), "main"), 21 * 3)
        self.assertEqual(stands_many(alone((("if", X_IS_ZERO, (SET,), (SET, SET)),), boxes=boxes), "main"), 21 * 4)
        # Of a call the ask alone is counted; of another room tell, too.
        program = pair((CALL, CALL), (SET,))
        self.assertEqual(stands_many(program, "main"), 7 * 2)
        self.assertEqual(stands_many(program, "sub"), 7 * 5 * 2)

    def test_fors_within_fors(self):
        inner = ("for", X, 2, (SET,))
        program = pair((("for", X, 4, (SET, inner, CALL)), SET), (inner,))
        # for; check, set, inner for, ask: 5 each; inner check, inner set: 15 each; set
        self.assertEqual(stands_many(program, "main"), 7 * (1 + 4 * 5 + 2 * 15 + 1))
        # for; check, set: 3 each; tell
        self.assertEqual(stands_many(program, "sub"), 7 * 5 * (1 + 2 * 3 + 1))

    def test_no_room(self):
        for name in (*NO_NAMES[:10], ["main"], {}, alone(())):
            with self.assertRaises(NoRoom) as caught:
                stands_many(alone((SET,)), name)
            self.assertIs(caught.exception.name, name)


class LookedTest(unittest.TestCase):
    def broken(self, program):
        told = looked(program)
        self.assertIsInstance(told, tuple)
        self.assertEqual(len(told), 2)
        self.assertIs(breaks(program, *told), True)
        self.assertEqual(looked(program), told)
        return told

    def test_let_by(self):
        for program in (
                Program((Room("a"),)), alone((HEAR,)), pair((CALL, SET), (SAY,)),
                alone((HEAR, ("set", "x", ZERO)), sayings=(X_IS_ZERO,))):
            self.assertIsNone(looked(program))

    def test_a_run_of_the_first_room(self):
        told = self.broken(alone((HEAR, ("set", "x", ("over", X, number(6)))), sayings=(X_IS_ZERO,)))
        self.assertEqual(told, ("main", ((0,), 0, (6,))))

    def test_a_run_of_another_room(self):
        sub = other((("if", ("is", ASKED, number(3)), (("set", "x", number(4)),), (("set", "x", ZERO),)),),
                    promise=("below", TOLD, ONE))
        name, run = self.broken(Program((first((CALL,)), sub)))
        self.assertEqual((name, run[1:]), ("sub", (3, ())))

    def test_a_promise_is_taken_at_its_word(self):
        # What sub does breaks its promise; main keeps its saying, if sub keeps the promise.
        sub = other((), promise=("is", TOLD, ZERO))
        main = first((CALL,), sayings=(X_IS_ZERO,))
        self.assertEqual(self.broken(Program((main, sub)))[0], "sub")
        kept = Room("sub", above="main", ask=5, told=(6, ZERO), promise=("is", TOLD, ZERO))
        self.assertIsNone(looked(Program((main, kept))))
        # Without the promise main can't rely on it.
        free = Room("sub", above="main", ask=5, told=(6, ZERO))
        self.assertEqual(self.broken(Program((main, free)))[0], "main")

    def test_whatever_is_asked_of_it(self):
        # main never asks 4, but the looker goes through all numbers.
        sub = Room("sub", above="main", ask=5, told=(6, ASKED), promise=("below", TOLD, number(4)))
        self.assertEqual(self.broken(Program((first((("call", "x", "sub", ZERO),)), sub))), ("sub", ((), 4, ())))

    def test_5000_and_just_more(self):
        boxes = (("x", 25, 0), ("y", 20, 0))
        program = alone((HEAR,) * 10, boxes=boxes)
        self.assertEqual(stands_many(program, "main"), 5000)
        self.assertIsNone(looked(program))
        boxes = (("x", 39, 0), ("y", 3, 0))
        sub = Room("sub", above="main", boxes=boxes, ask=1, told=(1, ZERO), body=(("for", X, 9, (SET, SET, SET)), SET))
        many = 39 * 3 * (1 + 4 * 10 + 1 + 1)
        self.assertEqual(many, 5031)
        self.refused(Program((first((SET,)), sub)), "sub", many)

    def refused(self, program, room, many):
        for turn in range(2):
            with self.assertRaises(TooMany) as caught:
                looked(program)
            self.assertEqual((caught.exception.room, caught.exception.many), (room, many))

    def test_5001(self):
        # Of fors at the most within one another: ones, tens, hundreds and thousands.
        for tens, many in ((8, 5001), (7, 4991)):
            inner = ("for", X, 9, (("for", X, 9, (SET,) * 3), *[SET] * 7))
            program = alone((("for", X, 9, (inner, *[SET] * tens)),), boxes=(("x", 1, 0),))
            self.assertEqual(stands_many(program, "main"), many)
            if many > 5000:
                self.refused(program, "main", many)
            else:
                self.assertIsNone(looked(program))

    def test_many_counts(self):
        body = (("for", X, 9, (("for", X, 9, (SET,) * 12), SET)), SET)
        program = Program((first((), boxes=()), Room("sub", above="main", boxes=(("x", 3, 0),), ask=1, told=(1, ZERO), body=body)))
        # for; check, inner for, set: 10 each; inner check, twelve sets: 100 each; set, tell
        self.assertEqual(stands_many(program, "sub"), 3 * (1 + 3 * 10 + 13 * 100 + 2))
        self.assertIsNone(looked(program))

    def test_too_many_ahead_of_any_run(self):
        boxes = tuple((box, 40, 0) for box in "ab")
        low = Room("low", above="sub", boxes=boxes, ask=40, told=(1, ZERO))
        deep = Room("deep", above="low", boxes=boxes, ask=4, told=(1, ZERO))
        program = Program((first((HEAR,), sayings=(X_IS_ZERO,)), other((HEAR,), promise=("is", TOLD, ZERO)), low, deep))
        self.refused(program, "low", 64000)
        program = Program((*program.rooms()[:2], Room("low", above="sub", ask=40, told=(1, ZERO)), deep))
        self.refused(program, "deep", 6400)

    def test_the_first_such_room(self):
        boxes = tuple((box, 40, 0) for box in "abcx")
        rooms = [first((SET,), boxes=boxes)]
        for name, ask in (("sub", 40), ("two", 3)):
            rooms.append(Room(name, above="main", boxes=boxes, ask=ask, told=(1, ZERO)))
        self.refused(Program(tuple(rooms)), "main", 40 ** 4)
        self.refused(Program((first(()), *rooms[1:])), "sub", 40 ** 5)


class ThroughTest(unittest.TestCase):
    """Drawn rooms, against all their runs one by one."""

    def test_all_runs(self):
        many, broke, whole = 0, 0, 0
        for source, program in small_programs(range(250)):
            for room in program.rooms():
                runs = Runs(program, room.name)
                if runs.many() > 3000:
                    continue
                found = runs.all()
                many += len(found)
                ends_badly = [run for run, end in found.items() if runs.breaks(run, end)]
                for run, end in source.sample(sorted(found.items()), min(len(found), 20)):
                    self.assertEqual(run_end(program, room.name, run), end)
                    self.assertEqual(breaks(program, room.name, run), run in ends_badly)
                    self.changed(source, program, room.name, found, run)
                broke += len(ends_badly) > 0
                whole += len(ends_badly) == 0
        self.assertGreater(min(broke, whole, many), 50)

    def changed(self, source, program, name, found, run):
        """A run with a number otherwise is a run just where it is one of all."""
        boxes, asked, given = run
        for thing in (
                (boxes, asked + 1, given), (boxes, asked, given + (0,)), (boxes, asked, given[:-1]),
                (tuple(source.randrange(5) for box in boxes), asked, given),
                (boxes, asked, tuple(source.randrange(4) for number in given))):
            if thing in found:
                self.assertEqual(run_end(program, name, thing), found[thing])
            else:
                with self.assertRaises(NoRun):
                    run_end(program, name, thing)

    def test_looked(self):
        let, broken = 0, 0
        for source, program in small_programs(range(300)):
            runs = [Runs(program, room.name) for room in program.rooms()]
            stands = [stands_many(program, room.name) for room in program.rooms()]
            if max(one.many() for one in runs) > 3000 or max(stands) > 5000:
                continue
            told = looked(program)
            found = [[run for run, end in one.all().items() if one.breaks(run, end)] for one in runs]
            if told is None:
                self.assertEqual(found, [[] for one in runs])
                let += 1
            else:
                bad = dict(zip([one.room.name for one in runs], found))
                self.assertIn(told[1], bad[told[0]])
                broken += 1
        self.assertGreater(min(let, broken), 30)
