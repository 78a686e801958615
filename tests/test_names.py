"""Point 2: the whole interface, asked by places and by names."""

import unittest

from anystore.bounds import beats_home, beats_of, beats_right, measure, measure_holds
from anystore.closed import closes, closure
from anystore.desk import Desk
from anystore.editions import swapped
from anystore.looker import breaks, looked, run_end, stands_many
from anystore.machines import Machine
from anystore.places import places
from anystore.plain import Plain
from anystore.programs import Program, Room
from anystore.reading import read_program
from anystore.stands import stand_of
from anystore.terms import holds, worth
from anystore.ways import Way, marks, round_beats, way_beats
from anystore.writing import expression_text, program_text, test_text
from anystore.yard import Yard
from tests.samples import CALL, HEAR, SAY, SET, X, X_IS_ZERO, other, pair

PROGRAM = pair((SET, CALL, HEAR), (SAY,))
TOLD = ("plus", X, ("told",))
RUN = ((3,), 0, (2, 5))
STAND = ((1, (), (4,), 0, 0), (0, (), (0,), 0, 0))
MACHINE = Machine(PROGRAM)
STORE = (1, 0, 4, (), 1, 0, None, ())

# What is asked: by their places, by their names and, behind a star, by names alone.
FUNCTIONS = (
    (worth, dict(expression=TOLD, boxes={"x": 3}), dict(asked=1, told=2)),
    (holds, dict(test=("is", TOLD, ("number", 5)), boxes={"x": 3}), dict(asked=1, told=2)),
    (expression_text, dict(expression=TOLD), {}), (test_text, dict(test=X_IS_ZERO), {}),
    (program_text, dict(program=PROGRAM), {}), (read_program, dict(text=str(PROGRAM)), {}),
    (places, dict(program=PROGRAM, name="sub"), {}),
    (stand_of, dict(program=PROGRAM, words=MACHINE.words()), {}),
    (swapped, dict(program=PROGRAM, room=other((SET,))), {}),
    (beats_home, dict(program=PROGRAM, name="sub"), {}), (beats_right, dict(program=PROGRAM, name="main"), {}),
    (beats_of, dict(program=PROGRAM), {}), (measure, dict(program=PROGRAM, name="main"), {}),
    (measure_holds, dict(program=PROGRAM, name="main", thing=measure(PROGRAM, "main")), {}),
    (run_end, dict(program=PROGRAM, name="main", run=RUN), {}),
    (breaks, dict(program=PROGRAM, name="main", thing=RUN), {}),
    (stands_many, dict(program=PROGRAM, name="sub"), {}), (looked, dict(program=PROGRAM), {}),
    (closure, dict(program=PROGRAM, name="sub"), {}),
    (closes, dict(program=PROGRAM, name="sub", thing=closure(PROGRAM, "sub")), {}),
    (marks, dict(hold=3), {}), (round_beats, dict(hold=3), dict(miss=2)), (way_beats, dict(hold=3), dict(miss=2)),
)


def shown(thing):
    """What an object tells, so that two can be held against each other."""
    if isinstance(thing, Room):
        return vars(thing)
    if isinstance(thing, Plain):
        return (thing.stand(), thing.now(), thing.refills())
    if isinstance(thing, Yard):
        return (len(thing), thing.right_in(), thing.is_right())
    if isinstance(thing, Desk):
        return (len(thing), thing.say("names"))
    return thing


MADE = (
    (Room, dict(name="sub"), dict(
        above="main", boxes=(("x", 7, 0),), sayings=(X_IS_ZERO,), ask=3, told=(4, X), promise=None, body=(SET,))),
    (Program, dict(rooms=PROGRAM.rooms()), {}), (Plain, dict(program=PROGRAM), dict(stand=STAND)),
    (Machine, dict(program=PROGRAM), {}), (Way, dict(hold=3), dict(miss=2, bound=7)),
    (Yard, dict(machines={"a": Machine(PROGRAM), "b": Machine(PROGRAM)}, ways=[("a", "b", Way(2))]), {}),
    (Desk, {}, {}),
)
# How to make an object, a method of it, its arguments.
METHODS = (
    (lambda: PROGRAM, "rooms", {}, {}), (lambda: PROGRAM, "room_of", dict(name="sub"), {}),
    (lambda: PROGRAM, "beneath", dict(name="main"), {}),
    (lambda: Plain(PROGRAM), "beat", dict(given=4), dict(room=False)), (lambda: Plain(PROGRAM), "stand", {}, {}),
    (lambda: Plain(PROGRAM), "now", {}, {}), (lambda: Plain(PROGRAM), "refills", {}, {}),
    (lambda: Machine(PROGRAM), "beat", dict(given=4), dict(room=False)), (lambda: Machine(PROGRAM), "stand", {}, {}),
    (lambda: Machine(PROGRAM), "now", {}, {}), (lambda: Machine(PROGRAM), "refills", {}, {}),
    (lambda: Machine(PROGRAM), "words", {}, {}), (lambda: Machine(PROGRAM), "names", {}, {}),
    (lambda: Machine(PROGRAM), "program", {}, {}), (lambda: Machine(PROGRAM), "spoil", dict(at=1, word=2), {}),
    (lambda: Machine(PROGRAM), "swap", dict(room=other((SET,))), {}),
    (lambda: Machine(PROGRAM), "trial", dict(deed=lambda machine: machine.beat()), {}),
    (lambda: Way(2, miss=2), "beat", {}, dict(word=3, taking=True, lost=(True, False))),
    (lambda: Way(2), "store", {}, {}), (lambda: Way(2), "spoil", dict(store=STORE), {}),
    (lambda: Way(2), "is_plain", {}, {}), (lambda: Way(2), "under_way", {}, {}),
    (lambda: Yard({"a": Machine(PROGRAM)}), "beat", {}, dict(lost={})),
    (lambda: Yard({"a": Machine(PROGRAM)}), "right_in", {}, {}),
    (lambda: Yard({"a": Machine(PROGRAM)}), "is_right", {}, {}), (Desk, "say", dict(row="names"), {}),
)


class NamesTest(unittest.TestCase):
    def ways_to_ask(self, asked, arguments, behind):
        """What is told by places, by names, and by names in another order."""
        told = [asked(*arguments.values(), **behind), asked(**arguments, **behind)]
        told.append(asked(**dict(reversed({**arguments, **behind}.items()))))
        return told

    def alike(self, told):
        self.assertEqual([shown(one) for one in told], [shown(told[0])] * 3)

    def test_functions(self):
        for asked, arguments, behind in FUNCTIONS:
            with self.subTest(asked.__name__):
                self.alike(self.ways_to_ask(asked, arguments, behind))

    def test_classes(self):
        for made, arguments, behind in MADE:
            with self.subTest(made.__name__):
                self.alike(self.ways_to_ask(made, arguments, behind))

    def test_methods(self):
        for make, name, arguments, behind in METHODS:
            with self.subTest(name):
                self.alike(self.ways_to_ask(lambda *xs, **more: getattr(make(), name)(*xs, **more), arguments, behind))

    def test_behind_a_star_by_name_alone(self):
        for asked, arguments, behind in (*FUNCTIONS, *MADE):
            if behind:
                with self.subTest(asked.__name__), self.assertRaises(TypeError):
                    asked(*arguments.values(), *behind.values())
        for make, name, arguments, behind in METHODS:
            if behind:
                with self.subTest(name), self.assertRaises(TypeError):
                    getattr(make(), name)(*arguments.values(), *behind.values())

    def test_what_is_meant_where_nothing_is_handed_in(self):
        self.assertEqual(worth(("plus", ("asked",), ("told",)), {}), 0)
        self.assertTrue(holds(("is", ("plus", ("asked",), ("told",)), ("number", 0)), {}))
        self.assertEqual(
            vars(Room("a")), dict(
                name="a", above="", boxes=(), sayings=(), ask=None, told=None, promise=None, body=()))
        self.assertEqual(Plain(PROGRAM).stand(), Plain(PROGRAM, stand=None).stand())
        self.assertEqual(Way(2), Way(2, miss=1, bound=10))
        self.assertEqual((round_beats(2), way_beats(2)), (round_beats(2, miss=1), way_beats(2, miss=1)))
        one, two = Way(2), Way(2)
        self.assertEqual(one.beat(), two.beat(word=None, taking=False, lost=(False, False)))
        self.assertEqual(one, two)
        for made in (Plain, Machine):
            one, two = made(PROGRAM), made(PROGRAM)
            for beat in range(30):
                self.assertEqual(one.beat(), two.beat(None, room=True))
                self.assertEqual(one.stand(), two.stand())
        machines = {"a": Machine(PROGRAM)}
        self.assertEqual(Yard(machines).beat(), Yard(machines, ()).beat(lost=()))


class OwnTest(unittest.TestCase):
    """Every list that is told is new and the asker's own."""

    def test_lists(self):
        machine = Machine(PROGRAM)
        way = Way(2)
        way.spoil(STORE)
        yard = Yard({"a": machine})
        for asked in (
                lambda: PROGRAM.beneath("main"), lambda: places(PROGRAM, "main"), machine.names,
                lambda: closure(PROGRAM, "sub"), way.under_way):
            told = asked()
            kept = list(told)
            self.assertIs(type(told), list)
            self.assertGreater(len(told), 0)
            told.clear()
            self.assertEqual(asked(), kept)
        yard.beat().append(None)
        self.assertEqual(yard.beat(), [])
        told = closure(PROGRAM, "sub")
        told[1].clear()
        self.assertNotEqual(closure(PROGRAM, "sub"), told)
