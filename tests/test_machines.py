"""Points 2, 12 and 14: machines of words, beat by beat."""

import unittest

from anystore.errors import NoEdition, NoWord
from anystore.machines import Machine
from anystore.plain import Plain
from anystore.programs import Program, Room
from anystore.stands import stand_of
from tests.chance import programs
from tests.samples import ASKED, CALL, HEAR, ONE, SAY, SET, TWO, X, X_IS_ZERO, ZERO, alone, first, house, other, pair
from tests.words import Words

MANY = 999999


def number(n):
    return ("number", n)


def spoilt(program, words):
    """A machine with these words."""
    machine = Machine(program)
    for at, word in enumerate(words):
        machine.spoil(at, word)
    return machine


class MachineCase(unittest.TestCase):
    def check(self, program, words, behind, *, said=(), given=None, room=True, took=None):
        """From these words one beat leads to those behind; so do all words that mean the same."""
        bounds = Words(program).bounds()
        ahead = [word % bound for word, bound in zip(words, bounds)]
        for more in (0, 1, 1000):
            raised = [word + more * bound for word, bound in zip(ahead, bounds)]
            greatest = [MANY - (MANY - word) % bound for word, bound in zip(ahead, bounds)]
            for start in (words, raised, greatest):
                machine = spoilt(program, start)
                self.assertEqual(machine.words(), tuple(start))
                self.assertEqual(machine.beat(given, room=room), said)
                self.assertEqual(machine.words(), behind)
                self.assertEqual(machine.refills(), took or (0,) * len(program))


class OneRoomTest(MachineCase):
    def test_at_first(self):
        low = Room("low", above="sub", boxes=(("a", 1, 0), ("b", 40, 39)), ask=3, told=(2, ZERO), body=(
            ("for", ZERO, 1, ()), ("for", ZERO, 9, ())))
        machine = Machine(Program((first((CALL,), boxes=(("x", 7, 5),)), other(), low)))
        self.assertEqual(machine.words(), (0, 5, 0, 0, 0, 0, 0, 0, 0, 0, 39, 0, 0))
        self.assertEqual((machine.now(), machine.refills()), (0, (0, 0, 0)))
        self.assertEqual(machine.stand(), Plain(machine.program()).stand())

    def test_home_of_the_first_room(self):
        self.check(alone((SET,)), (0, 3), (1, 3))
        self.check(alone((SET,)), (MANY + 1 - 2, 10), (1, 3))
        self.check(alone(()), (MANY, MANY), (0, MANY % 7))

    def test_home_without_its_sayings(self):
        boxes = (("x", 7, 0), ("y", 7, 5))
        for body in ((SET,), ()):
            program = alone(body, boxes=boxes, sayings=(("below", X, number(9)), X_IS_ZERO))
            self.check(program, (0, 3, 2), (0, 0, 5), took=(1,))
            self.check(program, (0, 0, 2), (1 if body else 0, 0, 2))

    def test_sayings_are_looked_at_at_home_alone(self):
        program = alone((("set", "x", number(4)), SET), sayings=(X_IS_ZERO,))
        self.check(program, (1, 5), (2, 4))
        self.check(program, (2, 5), (0, 1))
        self.check(program, (0, 1), (0, 0), took=(1,))

    def test_set(self):
        boxes = (("x", 7, 0), ("y", 40, 0))
        self.check(alone((("set", "x", ("times", X, ("box", "y"))),), boxes=boxes), (1, 5, 39), (0, 195 % 7, 39))
        self.check(alone((("set", "y", ("less", X, number(9))), SET), boxes=boxes), (1, 5, 39), (2, 5, 0))

    def test_hear(self):
        for given, bound, become in (
                (None, 7, 0), (0, 7, 1), (5, 7, 6), (6, 7, 1), (MANY, 40, 1 + MANY % 39), (MANY, 1, 0), (None, 1, 0)):
            self.check(alone((HEAR,), boxes=(("x", bound, 0),)), (1, bound - 1), (0, become), given=given)

    def test_say(self):
        for bound, become in ((7, 1), (2, 1), (1, 0)):
            program = alone((("say", "x", ("plus", X, number(900))),), boxes=(("x", bound, 0),))
            self.check(program, (1, bound - 1), (0, become), said=(("main", 899 + bound),))
            self.check(program, (1, bound - 1), (0, 0), room=False)

    def test_if(self):
        program = alone((("if", X_IS_ZERO, (SET,), (SET, SET)), SET))
        self.check(program, (1, 0), (2, 0))
        self.check(program, (1, 6), (3, 6))
        empty = alone((("if", X_IS_ZERO, (), (SET,)),))
        self.check(empty, (1, 0), (0, 0))

    def test_for_and_check(self):
        # home, for, check, set, set
        program = alone((("for", ("plus", X, TWO), 3, (SET,)), SET))
        for x, count in ((0, 2), (1, 3), (2, 0), (6, 0), (3, 1)):
            self.check(program, (1, 3, x), (2, count, x))
        for count in (1, 2, 3):
            self.check(program, (2, count, 5), (3, count - 1, 5))
        self.check(program, (2, 0, 5), (4, 0, 5))
        # Counts stay where another deed is done, also those that mean nothing there.
        self.check(program, (3, 3, 5), (2, 3, 1))
        self.check(program, (4, 2, 5), (0, 2, 1))
        self.check(program, (0, 2, 5), (1, 2, 5))

    def test_check_of_an_empty_for(self):
        program = alone((("for", X, 9, ()),))
        self.check(program, (2, 9, 0), (2, 8, 0))
        self.check(program, (2, 0, 0), (0, 0, 0))


class CallsTest(MachineCase):
    """main: home, set, ask, clear, again; sub: home, set, tell, told; x below 7, asked below 5, told below 6."""

    PROGRAM = pair((SET, CALL), (SET,))

    def both(self, ahead, behind, **more):
        self.check(self.PROGRAM, ahead, behind, **more)

    def test_home_of_another_room(self):
        for main, then in ((0, 1), (3, 0), (4, 2)):
            self.both((main, 3, 0, 2, 4, 5), (then, 3, 0, 2, 4, 5))
        self.both((1, 3, 0, 2, 4, 5), (2, 1, 0, 2, 4, 5))
        self.both((2, 3, 0, 2, 4, 5), (2, 3, 1, 2, 3, 5))
        self.both((2, 6, 0, 2, 4, 5), (2, 6, 1, 2, 1, 5))

    def test_home_of_another_room_without_its_sayings(self):
        sub = Room("sub", above="main", boxes=(("x", 7, 2),), sayings=(("is", X, TWO),), ask=5, told=(6, X), body=(SET,))
        program = Program((first((CALL,)), sub))
        for main, then in ((1, 1), (0, 1)):
            self.check(program, (main, 3, 0, 1, 4, 5), (then, 3, 0, 2, 4, 5), took=(0, 1))
        self.check(program, (1, 3, 0, 2, 4, 5), (1, 3, 1, 2, 3, 5))

    def test_home_while_the_room_above_asks_another_one(self):
        program = Program((first((CALL, ("call", "x", "two", X))), other((SET,)), other((SET,), name="two")))
        # main: home, ask sub, clear, again, ask two, clear, again
        self.check(program, (1, 3, 0, 0, 0, 0, 0, 0, 0, 0), (1, 3, 1, 0, 3, 0, 0, 0, 0, 0))
        self.check(program, (4, 3, 0, 0, 0, 0, 0, 0, 0, 0), (4, 3, 0, 0, 0, 0, 1, 0, 3, 0))

    def test_ask(self):
        for sub, then in ((0, 1), (1, 2), (2, 3)):
            ahead = (2, 3, sub, 4, 3, 5)
            x, told = {0: (4, 5), 1: (1, 5), 2: (4, 4)}[sub]
            self.both(ahead, (2, 3, then, x, 3, told))
        self.both((2, 3, 3, 4, 3, 5), (3, 5, 3, 4, 3, 5))
        self.both((2, 6, 3, 4, 1, 2), (3, 2, 3, 4, 1, 2))
        for asked in (0, 1, 2, 4):
            self.both((2, 3, 3, 4, asked, 5), (4, 3, 3, 4, asked, 5))

    def test_what_is_told_is_taken_by_the_rest_of_the_box(self):
        program = Program((first((CALL,), boxes=(("x", 4, 0),)), other()))
        for told in range(6):
            self.check(program, (1, 3, 2, 0, 3, told), (2, told % 4, 2, 0, 3, told))

    def test_clear_and_again(self):
        for place, then in ((3, 0), (4, 2)):
            # While the other room stands at told nobody asks it, so it goes home.
            self.both((place, 3, 3, 4, 3, 5), (place, 3, 0, 4, 3, 5))
            self.both((place, 3, 0, 4, 3, 5), (then, 3, 0, 4, 3, 5))
            self.both((place, 3, 1, 4, 3, 5), (then, 3, 2, 1, 3, 5))
            self.both((place, 3, 2, 4, 3, 5), (then, 3, 3, 4, 3, 4))

    def test_tell(self):
        program = Program((first((CALL,)), Room("sub", above="main", ask=5, told=(3, ("plus", ASKED, ONE)))))
        for asked in range(5):
            self.check(program, (0, 0, 1, asked, 2), (1, 0, 2, asked, (asked + 1) % 3))

    def test_told_while_it_is_asked_and_not(self):
        for main, then in ((0, 1), (3, 3), (4, 4)):
            self.both((main, 3, 3, 4, 2, 5), (then, 3, 0, 4, 2, 5))
        self.both((1, 3, 3, 4, 2, 5), (2, 1, 0, 4, 2, 5))
        self.both((2, 3, 3, 4, 2, 5), (4, 3, 3, 4, 2, 5))

    def test_told_at_another_ask_of_the_same_room(self):
        program = Program((first((CALL, ("call", "x", "sub", ONE), ("call", "x", "two", X))), other(), other(name="two")))
        # main: home, ask sub, clear, again, ask sub, clear, again, ask two, clear, again; sub: home, tell, told
        self.check(program, (1, 3, 2, 4, 1, 5, 0, 0, 0, 0), (3, 3, 2, 4, 1, 5, 0, 0, 0, 0))
        self.check(program, (4, 3, 2, 4, 1, 5, 0, 0, 0, 0), (5, 5, 2, 4, 1, 5, 0, 0, 0, 0))
        self.check(program, (7, 3, 2, 4, 1, 5, 0, 0, 0, 0), (7, 3, 0, 4, 1, 5, 1, 0, 3, 0))

    def test_asks_of_a_room_that_is_itself_asked(self):
        program = Program((
            first((CALL,)), other((("call", "x", "low", ("plus", ASKED, X)),)), other(name="low", above="sub")))
        # sub: home, ask, clear, again, tell, told; low: home, tell, told
        self.check(program, (0, 0, 1, 4, 3, 0, 0, 0, 0, 0), (1, 0, 1, 4, 3, 0, 1, 0, 2, 0))
        self.check(program, (0, 0, 1, 4, 3, 0, 2, 0, 2, 5), (1, 0, 2, 5, 3, 0, 2, 0, 2, 5))
        self.check(program, (0, 0, 1, 4, 3, 0, 2, 0, 1, 5), (1, 0, 3, 4, 3, 0, 2, 0, 1, 5))

    def test_all_step_by_what_stood_ahead(self):
        # The number asked is that ahead of the beat, though the room above goes on at the same beat.
        self.both((2, 4, 3, 1, 4, 3), (3, 3, 3, 1, 4, 3))
        self.both((4, 4, 2, 6, 0, 0), (2, 4, 3, 6, 0, 0))


class SeveralTest(MachineCase):
    def program(self, step):
        return Program((first((step,)), other((step,)), other((step,), name="two"), other((step,), name="low", above="sub")))

    def test_several_hear(self):
        ahead = (1, 6, 1, 6, 0, 0, 1, 6, 0, 0, 0, 6, 0, 0)
        for given, x in ((None, 0), (8, 3)):
            self.check(self.program(HEAR), ahead, (0, x, 2, x, 0, 0, 2, x, 0, 0, 0, 6, 0, 0), given=given, room=False)

    def test_several_say_in_the_rooms_order(self):
        ahead = (0, 6, 1, 5, 0, 0, 1, 4, 0, 0, 1, 3, 0, 0)
        program = self.program(("say", "x", X))
        said = (("sub", 5), ("two", 4), ("low", 3))
        self.check(program, ahead, (1, 6, 2, 1, 0, 0, 2, 1, 0, 0, 2, 1, 0, 0), said=said, given=5)
        self.check(program, ahead, (1, 6, 2, 0, 0, 0, 2, 0, 0, 0, 2, 0, 0, 0), room=False)
        self.check(program, (1, 6) + ahead[2:], (0, 1, 2, 1, 0, 0, 2, 1, 0, 0, 2, 1, 0, 0), said=(("main", 6), *said))

    def test_several_take_their_firsts(self):
        sayings = (X_IS_ZERO,)
        rooms = [first((SET,), sayings=sayings)]
        for name in ("sub", "two"):
            rooms.append(Room(name, above="main", boxes=(("x", 7, 0),), sayings=sayings, ask=5, told=(6, X)))
        program = Program(tuple(rooms))
        self.check(program, (0, 1, 0, 2, 0, 0, 0, 3, 0, 0), (0, 0, 0, 0, 0, 0, 0, 0, 0, 0), took=(1, 1, 1))
        self.check(program, (1, 1, 0, 2, 0, 0, 1, 3, 0, 0), (0, 1, 0, 0, 0, 0, 2, 3, 0, 3), took=(0, 1, 0))


class WordsTest(unittest.TestCase):
    """All rooms of drawn programs, from any words, against all of them stepped by point 12 once more."""

    def test_drawn_programs(self):
        took = 0
        for source, program in programs(range(120)):
            machine, words = Machine(program), Words(program)
            for turn in range(4):
                for beat in range(12):
                    given, room = source.choice((None, 0, 5, MANY)), source.random() < 0.7
                    self.assertEqual(machine.beat(given, room=room), words.beat(given, room))
                    self.assertEqual(machine.words(), tuple(words.words))
                    self.assertEqual(machine.refills(), tuple(words.refills))
                    self.assertEqual(machine.stand(), stand_of(program, machine.words()))
                words.words = [source.choice((0, 1, 3, source.randrange(MANY + 1))) for word in words.words]
                for at, word in enumerate(words.words):
                    machine.spoil(at, word)
            self.assertEqual(machine.now(), 48)
            took += sum(machine.refills())
        self.assertGreater(took, 100)


class TellsTest(unittest.TestCase):
    PROGRAM = Program((
        first((("for", X, 2, (("for", X, 3, (CALL,)),)),), boxes=(("x", 7, 0), ("y", 1, 0))),
        other((("for", X, 1, ()),)), Room("low", above="sub", ask=1, told=(1, ZERO))))
    NAMES = [
        ("main", "place"), ("main", "count", 0), ("main", "count", 1), ("main", "box", "x"), ("main", "box", "y"),
        ("sub", "place"), ("sub", "count", 0), ("sub", "box", "x"), ("sub", "asked"), ("sub", "told"),
        ("low", "place"), ("low", "asked"), ("low", "told")]

    def test_names(self):
        machine = Machine(self.PROGRAM)
        self.assertEqual(machine.names(), self.NAMES)
        machine.names().clear()
        self.assertEqual(machine.names(), self.NAMES)
        self.assertEqual(Machine(Program((Room("a"),))).names(), [("a", "place")])

    def test_words_stand_where_their_names_tell(self):
        machine = Machine(self.PROGRAM)
        for at, name in enumerate(self.NAMES):
            machine.spoil(at, at + 100)
        self.assertEqual(machine.words(), tuple(range(100, 113)))
        self.assertEqual(machine.stand(), stand_of(self.PROGRAM, tuple(range(100, 113))))

    def test_kinds(self):
        machine = Machine(self.PROGRAM)
        self.assertEqual(
            [type(told) for told in (machine.words(), machine.refills(), machine.beat(), machine.stand(), machine.names())],
            [tuple, tuple, tuple, tuple, list])
        self.assertIs(type(machine.now()), int)
        self.assertEqual({type(word) for word in machine.words()}, {int})
        self.assertEqual({type(name) for name in machine.names()}, {tuple})
        self.assertEqual(machine.program(), self.PROGRAM)

    def test_len_and_repr(self):
        machine = Machine(self.PROGRAM)
        self.assertEqual((len(machine), repr(machine)), (13, "Machine(13)"))
        least = Machine(Program((Room("a"),)))
        self.assertEqual((len(least), repr(least)), (1, "Machine(1)"))
        self.assertEqual(len(Machine(house(3))), len(Machine(house(3)).words()))

    def test_equal(self):
        one, two = Machine(self.PROGRAM), Machine(Program(self.PROGRAM.rooms()))
        self.assertEqual(one, two)
        for at in range(13):
            two.spoil(at, 50)
            self.assertNotEqual(one, two)
            one.spoil(at, 50)
            self.assertEqual(one, two)
        self.assertNotEqual(Machine(alone((SET,))), Machine(alone((HEAR,))))
        self.assertNotEqual(Machine(alone((SET,))), Machine(pair((SET,))))

    def test_equal_by_programs_and_words_alone(self):
        one, two = Machine(alone((), sayings=(X_IS_ZERO,))), Machine(alone((), sayings=(X_IS_ZERO,)))
        one.spoil(1, 3)
        one.beat()
        self.assertEqual((one.now(), one.refills()), (1, (1,)))
        self.assertEqual(one, two)
        # Words that mean the same are not the same words.
        one.spoil(0, 1)
        self.assertEqual(one.stand(), two.stand())
        self.assertNotEqual(one, two)

    def test_equal_to_nothing_else(self):
        machine = Machine(alone((SET,)))
        for thing in (None, True, 0, 2, "Machine(2)", (0, 0), [0, 0], {}, alone((SET,)), Plain(alone((SET,)))):
            self.assertFalse(machine == thing)
            self.assertTrue(machine != thing)


class SpoilTest(unittest.TestCase):
    def test_at_the_first_and_the_last_place(self):
        machine = Machine(pair((SET, CALL), (SAY,)))
        for at in (0, 5):
            for word in (MANY, 7, 0):
                self.assertIsNone(machine.spoil(at, word))
                self.assertEqual(machine.words()[at], word)
        self.assertEqual(machine.words(), Machine(machine.program()).words())
        self.assertEqual((machine.now(), machine.refills()), (0, (0, 0)))

    def test_words_stay_as_they_are_till_the_next_beat(self):
        machine = spoilt(pair((SET, CALL), (SET,)), (MANY,) * 6)
        self.assertEqual(machine.words(), (MANY,) * 6)
        self.assertIsNone(machine.stand())
        machine.spoil(0, 0)
        self.assertEqual(machine.words(), (0,) + (MANY,) * 5)
        machine.beat()
        # sub stood at told, and nobody asked it
        self.assertEqual(MANY % 4, 3)
        self.assertEqual(machine.words(), (1, MANY % 7, 0, MANY % 7, MANY % 5, MANY % 6))

    def test_no_word(self):
        machine = spoilt(pair((SET, CALL), (SET,)), (1, 8, 3, 9, 7, 11))
        machine.beat()
        words = machine.words()
        wrong = (None, True, False, "", "0", "a", (), (0,), [], [0], {}, {"a": 0}, 10 ** 29, machine, machine.program())
        for at in (-1, 6, 1000000, *wrong):
            for word in (0, MANY, -1, None):
                with self.assertRaises(NoWord) as caught:
                    machine.spoil(at, word)
                self.assertEqual((caught.exception.at, caught.exception.word), (at, word))
        for word in (-1, 1000000, *wrong):
            for at in (0, 5, "x"):
                with self.assertRaises(NoWord) as caught:
                    machine.spoil(at, word)
                self.assertEqual((caught.exception.at, caught.exception.word), (at, word))
        self.assertEqual((machine.words(), machine.now(), machine.refills()), (words, 1, (0, 0)))

    def test_refused_things_are_the_very_ones(self):
        for thing in ([1, [2]], {"a": [1]}, True):
            with self.assertRaises(NoWord) as caught:
                Machine(alone((SET,))).spoil(thing, thing)
            self.assertIs(caught.exception.at, thing)
            self.assertIs(caught.exception.word, thing)

    def test_beats_and_firsts_behind_spoilings(self):
        machine = Machine(alone((SET,), sayings=(X_IS_ZERO,)))
        for turn in range(1, 6):
            machine.spoil(0, 0)
            machine.spoil(1, 4)
            self.assertIsNone(machine.stand())
            machine.beat()
            self.assertEqual((machine.now(), machine.refills()), (turn, (turn,)))
            self.assertEqual(machine.stand(), ((0, (), (0,), 0, 0),))


class TrialTest(unittest.TestCase):
    PROGRAM = Program((first((SET, CALL), sayings=(("below", X, number(7)),)), other((SAY,))))
    NEWER = other((SET, SET))

    def machine(self):
        machine = Machine(self.PROGRAM)
        for beat in range(5):
            machine.beat()
        machine.spoil(1, 700)
        return machine

    def told(self, machine):
        return (machine.words(), machine.program(), machine.now(), machine.refills(), machine.stand(), machine.names())

    def unharmed(self, deed, *, wanted=None, error=None):
        machine = self.machine()
        ahead = self.told(machine)
        if error is None:
            self.assertEqual(machine.trial(deed), wanted)
        else:
            with self.assertRaises(type(error)) as caught:
                machine.trial(deed)
            self.assertIs(caught.exception, error)
        self.assertEqual(self.told(machine), ahead)
        self.assertEqual(machine, self.machine())
        # It goes on as if there had been no trial.
        twin = self.machine()
        for beat in range(20):
            self.assertEqual(machine.beat(beat), twin.beat(beat))
            self.assertEqual(self.told(machine), self.told(twin))

    def test_beats(self):
        self.unharmed(lambda machine: sum(len(machine.beat()) for k in range(9)) > 0, wanted=True)

    def test_spoilings(self):
        def deed(machine):
            for at in range(len(machine)):
                machine.spoil(at, MANY)
            machine.beat()
            return machine.words()
        self.unharmed(deed, wanted=tuple(deed(self.machine())))

    def test_firsts_taken(self):
        program = alone((SET,), sayings=(X_IS_ZERO,))
        machine = Machine(program)

        def deed(same):
            same.spoil(1, 3)
            same.beat()
            return same.refills()
        self.assertEqual(machine.trial(deed), (1,))
        self.assertEqual((machine.refills(), machine.now(), machine.words()), ((0,), 0, (0, 0)))

    def test_swaps(self):
        def deed(machine):
            machine.swap(self.NEWER)
            for beat in range(7):
                machine.beat()
            return (machine.program().room_of("sub"), machine.now())
        self.unharmed(deed, wanted=(self.NEWER, 12))

    def test_raises(self):
        error = KeyError("own")

        def deed(machine):
            machine.beat()
            machine.swap(self.NEWER)
            machine.spoil(0, 3)
            raise error
        self.unharmed(deed, error=error)

    def test_refusals_go_on(self):
        machine = self.machine()
        ahead = self.told(machine)
        with self.assertRaises(NoWord):
            machine.trial(lambda same: (same.beat(), same.spoil(-1, 0)))
        with self.assertRaises(NoEdition):
            machine.trial(lambda same: (same.beat(), same.swap(Room("main"))))
        self.assertEqual(self.told(machine), ahead)

    def test_within_another_trial(self):
        def inner(machine):
            machine.spoil(0, 4)
            machine.beat()
            return machine.now()

        def outer(machine):
            machine.beat()
            ahead = self.told(machine)
            found = [machine.trial(inner), machine.now()]
            self.assertEqual(self.told(machine), ahead)
            machine.swap(self.NEWER)
            with self.assertRaises(ZeroDivisionError):
                machine.trial(lambda same: (inner(same), 1 // 0))
            found.append(machine.now())
            return found
        self.unharmed(outer, wanted=[7, 6, 6])

    def test_the_machine_by_its_own_name(self):
        machine = self.machine()
        ahead = self.told(machine)
        found = []

        def deed(same):
            found.append(same == machine)
            machine.beat()
            machine.spoil(0, 2)
            found.append(same.words() == machine.words())
            found.append(same is machine)
        self.assertIsNone(machine.trial(deed))
        self.assertEqual(found, [True, True, True])
        self.assertEqual(self.told(machine), ahead)

    def test_other_machines_go_on(self):
        one, two = self.machine(), self.machine()
        one.trial(lambda same: (same.beat(), two.beat()))
        self.assertEqual((one.now(), two.now()), (5, 6))


class CallsByNameTest(unittest.TestCase):
    def test_by_places_and_by_names(self):
        program = alone((HEAR, ("say", "x", X)))
        machines = [Machine(program), Machine(program=program)]
        for machine in machines:
            machine.spoil(0, 1)
            machine.spoil(word=3, at=1)
        self.assertEqual(machines[0].beat(3), machines[1].beat(given=3))
        self.assertEqual(machines[0].words(), (2, 4))
        self.assertEqual(machines[0], machines[1])
        self.assertEqual(machines[0].beat(room=False, given=1), ())
        self.assertEqual(machines[1].beat(), (("main", 4),))
        self.assertEqual(machines[0].trial(deed=lambda machine: machine.now()), 2)
        machines[0].swap(room=first((HEAR,)))
        self.assertEqual(machines[0].program(), alone((HEAR,)))

    def test_behind_the_star_by_name_alone(self):
        with self.assertRaises(TypeError):
            Machine(alone((HEAR,))).beat(None, False)

    def test_two_machines_share_nothing(self):
        program = pair((SET, CALL), (SET,))
        one, two = Machine(program), Machine(program)
        for beat in range(4):
            one.beat()
        one.spoil(0, MANY)
        one.swap(other((SAY,)))
        self.assertEqual((two.words(), two.now(), two.program()), (Machine(program).words(), 0, program))
        self.assertEqual(program, pair((SET, CALL), (SET,)))
