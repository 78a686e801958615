"""Points 2, 16 and 17: bounds and measures."""

import unittest

from anystore.bounds import beats_home, beats_of, beats_right, measure, measure_holds
from anystore.errors import NoRoom
from anystore.places import places
from anystore.programs import Program, Room
from tests.chance import programs
from tests.samples import CALL, HEAR, NO_NAMES, SAY, SET, X, X_IS_ZERO, alone, first, house, other, pair


def nest(step, deep):
    """A for around a for and so on, the innermost with this step."""
    return (step,) if deep == 0 else (("for", X, 2, nest(step, deep - 1)),)


class WeightTest(unittest.TestCase):
    def weighs(self, body, weight):
        """The body weighs the same in the first room and in another one."""
        self.assertEqual(beats_home(alone(body), "main"), 1 + weight)
        self.assertEqual(beats_home(pair((), body), "sub"), 4 + weight)
        self.assertEqual(beats_of(alone(body)), 1 + weight)

    def test_each_step(self):
        self.weighs((), 0)
        for step in (SET, HEAR, SAY):
            self.weighs((step,), 1)
        self.weighs((SET, HEAR, SAY, SET), 4)

    def test_ifs(self):
        self.weighs((("if", X_IS_ZERO, (), ()),), 1)
        self.weighs((("if", X_IS_ZERO, (SET,) * 3, (SET,)),), 4)
        self.weighs((("if", X_IS_ZERO, (SET,), (SET,) * 5), SET), 7)
        self.weighs((("if", X_IS_ZERO, (), (("if", X_IS_ZERO, (SET,), ()), SET)),), 4)

    def test_fors(self):
        self.weighs((("for", X, 1, ()),), 1 + 2 * 1)
        self.weighs((("for", X, 9, ()),), 1 + 10 * 1)
        self.weighs((("for", X, 3, (SET, HEAR)),), 1 + 4 * 3)
        self.weighs((("for", X, 3, (SET, HEAR)), SAY), 2 + 4 * 3)
        self.weighs(nest(SET, 2), 1 + 3 * (1 + 1 + 3 * 2))
        self.weighs(nest(SET, 3), 1 + 3 * (1 + 1 + 3 * (1 + 1 + 3 * 2)))
        self.weighs((("for", X, 2, (("if", X_IS_ZERO, (SET, SET), (HEAR,)),)),), 1 + 3 * (1 + 3))

    def test_calls(self):
        for sub, weight in (((), 0), ((SET,), 1), ((SET,) * 7, 7), (nest(SET, 1), 7)):
            self.assertEqual(beats_home(pair((CALL,), sub), "main"), 1 + 8 + 2 * (1 + weight))
            self.assertEqual(beats_home(pair((CALL, SET, CALL), sub), "main"), 1 + 2 * (8 + 2 * (1 + weight)) + 1)
            body = (("for", X, 4, (CALL,)),)
            self.assertEqual(beats_home(pair(body, sub), "main"), 1 + 1 + 5 * (1 + 8 + 2 * (1 + weight)))

    def test_calls_of_rooms_that_call_others(self):
        one = other((("call", "x", "two", X),), name="one")
        two = other((("call", "x", "three", X), SET), name="two", above="one")
        three = other((SET,), name="three", above="two")
        program = Program((first((("call", "x", "one", X), ("call", "x", "one", X))), one, two, three))
        weights = {"three": 1}
        weights["two"] = 8 + 2 * (1 + weights["three"]) + 1
        weights["one"] = 8 + 2 * (1 + weights["two"])
        weights["main"] = 2 * (8 + 2 * (1 + weights["one"]))
        self.assertEqual(weights["main"], 2 * (8 + 2 * (1 + 8 + 2 * (1 + 8 + 2 * (1 + 1) + 1))))
        for name, weight in weights.items():
            self.assertEqual(beats_home(program, name), (1 if name == "main" else 4) + weight)
        right = 0
        for name in ("three", "two", "one", "main"):
            right += beats_home(program, name)
            self.assertEqual(beats_right(program, name), right)
        self.assertEqual(beats_of(program), right)

    def test_several_rooms_beneath(self):
        rooms = (
            first((SET,)), other((SET,) * 3, name="one"), other((), name="two"), other((SET,), name="low", above="two"),
            other((SET,) * 2, name="deep", above="low"), other((SET,) * 9, name="last", above="one"))
        program = Program(rooms)
        self.assertEqual(
            [beats_home(program, room.name) for room in rooms], [1 + 1, 4 + 3, 4, 4 + 1, 4 + 2, 4 + 9])
        self.assertEqual(
            [beats_right(program, room.name) for room in rooms], [2 + 20, 7 + 13, 4 + 5 + 6, 5 + 6, 6, 13])
        self.assertEqual(beats_of(program), 22)

    def test_a_room_that_is_never_called_counts_with_the_program(self):
        self.assertEqual(beats_right(pair((), (SET,) * 5), "main"), 1 + 9)

    def test_a_house(self):
        # Thirty steps in each of eight rooms, told at once: each weight is reckoned once.
        weight = sum(2 + 1 + 4 * 3 for k in range(5))
        program = house(3)
        for name in "defgh":
            self.assertEqual(beats_home(program, name), 4 + weight + 5)
        self.assertEqual(beats_home(program, "c"), 4 + weight + 2 + 3 * (8 + 2 * (1 + weight + 5)))


class MeasureTest(unittest.TestCase):
    def around(self, program, name):
        """For each place the fors at whose check, or within whose body, it is, by the places alone."""
        found = places(program, name)
        fors = [at for at, place in enumerate(found) if place[0] == "for"]
        around = []
        for at in range(len(found)):
            around.append([number for number, begin in enumerate(fors) if begin < at < self.end(program, name, number)])
        return around

    def end(self, program, name, number):
        """The first place behind a for's body."""
        sizes = []

        def walk(body, at):
            for step in body:
                size = self.size(step)
                if step[0] == "for":
                    sizes.append(at + size)
                    walk(step[3], at + 2)
                if step[0] == "if":
                    walk(step[2], at + 1)
                    walk(step[3], at + 1 + sum(self.size(one) for one in step[2]))
                at += size
        walk(program.room_of(name).body, 1)
        return sizes[number]

    def size(self, step):
        inner = [part for part in step[2:] if step[0] in ("if", "for") and isinstance(part, tuple)]
        own = {"for": 2, "call": 3}.get(step[0], 1)
        return own + sum(self.size(one) for body in inner for one in body)

    def comes_to(self, program, name, told):
        numbers, weights = told
        mosts = [place[3] for place in places(program, name) if place[0] == "for"]
        left = [
            number + sum(mosts[k] * weights[k] for k in around)
            for number, around in zip(numbers, self.around(program, name))]
        return 1 + max(left)

    def test_the_told_one(self):
        for source, program in programs(range(160)):
            for room in program.rooms():
                told = measure(program, room.name)
                self.assertEqual(told, measure(program, room.name))
                numbers, weights = told
                self.assertEqual([type(part) for part in (told, numbers, weights)], [tuple] * 3)
                self.assertEqual({type(number) for number in numbers + weights}, {int})
                found = places(program, room.name)
                self.assertEqual(len(numbers), len(found))
                self.assertEqual(len(weights), len([place for place in found if place[0] == "for"]))
                self.assertTrue(all(weight >= 1 for weight in weights))
                self.assertIs(measure_holds(program, room.name, told), True)
                self.assertEqual(self.comes_to(program, room.name, told), beats_home(program, room.name))

    def test_of_a_house(self):
        program = house(3)
        for name in "abcdefgh":
            told = measure(program, name)
            self.assertTrue(measure_holds(program, name, told))
            self.assertEqual(self.comes_to(program, name, told), beats_home(program, name))

    def test_the_least(self):
        self.assertEqual(measure(alone(()), "main"), ((0,), ()))
        self.assertEqual(measure(pair(), "sub"), ((0, 3, 2), ()))
        self.assertEqual(measure(alone((SET, HEAR)), "main"), ((0, 2, 1), ()))


class HoldsTest(unittest.TestCase):
    """Each clause by numbers of which each is the least that holds."""

    def least(self, program, name, numbers, weights=()):
        """These hold; each number raised by one alone may fail others, each one less fails."""
        self.assertIs(measure_holds(program, name, (numbers, weights)), True)
        for at in range(len(numbers)):
            lower = numbers[:at] + (numbers[at] - 1,) + numbers[at + 1:]
            self.assertIs(measure_holds(program, name, (lower, weights)), False, at)

    def test_set_hear_say(self):
        for step in (SET, HEAR, SAY):
            self.least(alone((step, step)), "main", (0, 2, 1))
            self.assertFalse(measure_holds(alone((step, step)), "main", ((0, 2, 2), ())))
            self.assertTrue(measure_holds(alone((step, step)), "main", ((0, 9, 2), ())))

    def test_home(self):
        for home in (1, 2, 100):
            self.assertFalse(measure_holds(alone((SET,)), "main", ((home, 200), ())))
        self.assertFalse(measure_holds(alone(()), "main", ((1,), ())))
        self.assertTrue(measure_holds(alone(()), "main", ((0,), ())))

    def test_tell_and_told(self):
        self.least(pair(), "sub", (0, 3, 2))
        self.least(pair((), (SET,)), "sub", (0, 4, 3, 2))
        self.assertTrue(measure_holds(pair(), "sub", ((0, 10, 9), ())))
        self.assertFalse(measure_holds(pair(), "sub", ((0, 9, 9), ())))

    def test_if(self):
        # home, if, set, set, set, hear
        program = alone((("if", X_IS_ZERO, (SET,), (SET, SET)), HEAR))
        self.least(program, "main", (0, 4, 2, 3, 2, 1))
        self.assertFalse(measure_holds(program, "main", ((0, 4, 4, 3, 2, 1), ())))
        self.assertTrue(measure_holds(program, "main", ((0, 4, 3, 3, 2, 1), ())))

    def test_for_and_check(self):
        # home, for, check, set, set, hear
        program = alone((("for", X, 3, (SET, SET)), HEAR))
        self.least(program, "main", (0, 2 + 3 * 3 + 1, 2, 4, 3, 1), (3,))
        # A weight less, and the check with it is not above inside; more, and the for is not above.
        self.assertFalse(measure_holds(program, "main", ((0, 12, 2, 4, 3, 1), (2,))))
        self.assertFalse(measure_holds(program, "main", ((0, 12, 2, 4, 3, 1), (4,))))
        self.assertTrue(measure_holds(program, "main", ((0, 15, 2, 4, 3, 1), (4,))))
        self.assertFalse(measure_holds(program, "main", ((0, 12, 1, 4, 3, 1), (3,))))

    def test_an_empty_for(self):
        program = alone((("for", X, 9, ()),))
        self.least(program, "main", (0, 1 + 9 + 1, 1), (1,))
        self.assertFalse(measure_holds(program, "main", ((0, 100, 1), (0,))))

    def test_call(self):
        # home, ask, clear, again, set; what sub weighs is 2
        program = pair((CALL, SET), (SET, SET))
        self.least(program, "main", (0, 1 + 8 + 2 * 3, 3, 15, 1))
        self.assertTrue(measure_holds(program, "main", ((0, 16, 3, 16, 1), ())))
        self.assertTrue(measure_holds(program, "main", ((0, 15, 99, 99, 1), ())))
        self.assertFalse(measure_holds(program, "main", ((0, 16, 3, 15, 1), ())))

    def test_raised_so_that_it_holds_still(self):
        for source, program in programs(range(60)):
            for room in program.rooms():
                numbers, weights = measure(program, room.name)
                doubled = tuple(2 * number for number in numbers), tuple(2 * weight for weight in weights)
                self.assertTrue(measure_holds(program, room.name, doubled))
                if numbers[1:]:
                    raised = (numbers[0] + 1, *numbers[1:])
                    self.assertFalse(measure_holds(program, room.name, (raised, weights)))

    def test_any_things(self):
        program = alone((("for", X, 3, (SET,)), HEAR))
        numbers, weights = measure(program, "main")
        self.assertTrue(measure_holds(program, "main", (numbers, weights)))
        wrong = [
            None, True, 0, "", "measure", (), [], {}, numbers, weights, (numbers,), (numbers, weights, ()),
            [numbers, weights], (list(numbers), weights), (numbers, list(weights)), (weights, numbers),
            (numbers + (9,), weights), (numbers[:-1], weights), (numbers, weights + (9,)), (numbers, ()),
            (numbers, None), (None, weights), (numbers, "a"), ("abcde", weights), ({}, {}), program,
            ((False, *numbers[1:]), weights), (numbers, (True,)), (numbers, (-3,)), (numbers, (0,)),
            ((0, None, *numbers[2:]), weights), ((0, (9,), *numbers[2:]), weights), ((0, "9", *numbers[2:]), weights),
            (numbers, (None,)), (numbers, ("2",)), (numbers, ((2,),)), ((-1, *numbers[1:]), weights)]
        for thing in wrong:
            with self.subTest(thing=thing):
                self.assertIs(measure_holds(program, "main", thing), False)
        great = 10 ** 29
        self.assertIs(measure_holds(program, "main", ((0, great, *numbers[2:]), weights)), True)

    def test_truths_are_no_numbers(self):
        program = alone((SET,))
        self.assertTrue(measure_holds(program, "main", ((0, 1), ())))
        self.assertFalse(measure_holds(program, "main", ((0, True), ())))
        self.assertFalse(measure_holds(program, "main", ((False, 1), ())))
        program = alone((("for", X, 1, ()),))
        self.assertTrue(measure_holds(program, "main", ((0, 3, 1), (1,))))
        self.assertFalse(measure_holds(program, "main", ((0, 3, 1), (True,))))

    def test_another_rooms(self):
        program = pair((SET, CALL), (SET, HEAR, SAY))
        for name, another in (("main", "sub"), ("sub", "main")):
            self.assertFalse(measure_holds(program, name, measure(program, another)))

    def test_numbers_below_nought(self):
        # -1 at a place to which nothing leads is no number.
        program = pair((CALL,), ())
        numbers = measure(program, "main")[0]
        self.assertFalse(measure_holds(program, "main", ((*numbers[:2], -5, numbers[3]), ())))


class RefusedTest(unittest.TestCase):
    def test_no_room_ahead_of_all(self):
        program = pair((SET, CALL), (SET,))
        names = [*NO_NAMES[:12], "low", [], {}, ("main",), program, Room("main")]
        for name in names:
            for asked in (beats_home, beats_right, measure):
                with self.assertRaises(NoRoom) as caught:
                    asked(program, name)
                self.assertIs(caught.exception.name, name)
            for thing in (None, measure(program, "main")):
                with self.assertRaises(NoRoom) as caught:
                    measure_holds(program, name, thing)
                self.assertIs(caught.exception.name, name)

    def test_by_places_and_by_names(self):
        program = pair((SET, CALL), (SET,))
        for asked in (beats_home, beats_right, measure):
            self.assertEqual(asked(name="sub", program=program), asked(program, "sub"))
        self.assertEqual(beats_of(program=program), beats_of(program))
        told = measure(program, "sub")
        self.assertTrue(measure_holds(thing=told, name="sub", program=program))
