"""Points 2, 3 and 25: yards of machines and ways."""

import copy
import random
import unittest

from anystore.bounds import beats_of
from anystore.errors import NoYard, TooLost
from anystore.machines import Machine
from anystore.places import places
from anystore.programs import Program
from anystore.ways import Way, way_beats
from anystore.yard import Yard
from tests.letby import let_programs
from tests.samples import HEAR, ONE, SET, X, X_IS_ZERO, alone, first, house, other, pair
from tests.test_ways import any_store

SAY = ("say", "x", X)
# home, hear, set; home, say, set
HEARS = alone((HEAR, SET), boxes=(("x", 40, 0),))
SAYS = alone((SAY, ("set", "x", ("plus", X, ONE))), boxes=(("x", 40, 0),))
BOTH = alone((HEAR, SAY), boxes=(("x", 40, 0),))


def machine(program, *words):
    made = Machine(program)
    for at, word in enumerate(words):
        made.spoil(at, word)
    return made


def way(*store, hold=2, miss=1, bound=10):
    made = Way(hold, miss=miss, bound=bound)
    if store:
        made.spoil(store)
    return made


class MadeTest(unittest.TestCase):
    def refused(self, why, *arguments):
        with self.assertRaises(NoYard) as caught:
            Yard(*arguments)
        self.assertEqual(caught.exception.why, why)
        self.assertIs(type(caught.exception.why), type(why))

    def some(self, *names):
        return {name: Machine(BOTH) for name in names}

    def test_len(self):
        for names in ("a", "ab", "abc", "abcd"):
            self.assertEqual(len(Yard(self.some(*names))), len(names))
        self.assertEqual(len(Yard(self.some("a", "b"), [("a", "b", Way(1))])), 2)
        self.assertEqual(len(Yard(ways=(), machines=self.some("abcdefgh"))), 1)

    def test_machines(self):
        for thing in (
                None, True, 0, "", "ab", (), [], {}, [("a", Machine(BOTH))], (Machine(BOTH),), Machine(BOTH), BOTH,
                self.some(*"abcde"), {"A": Machine(BOTH)}, {"": Machine(BOTH)}, {"abcdefghi": Machine(BOTH)},
                {"asked": Machine(BOTH)}, {"not": Machine(BOTH)}, {"a b": Machine(BOTH)}, {"a1": Machine(BOTH)},
                {"a": None}, {"a": BOTH}, {"a": Machine(BOTH), "b": 0}, {"a": Way(1)}, {"a": [Machine(BOTH)]}):
            for ways in ((), None, [None]):
                self.refused("machines", thing, ways)

    def test_ways(self):
        for thing in (None, True, 0, "", "ab", {}, {"a": 1}, Way(1), BOTH):
            self.refused("ways", self.some("a", "b"), thing)

    def test_the_first_way_that_is_not_as_told(self):
        machines = self.some(*"abcd")
        right = ("a", "b", Way(1))
        for wrong in (
                None, True, 0, "", "abc", (), [], {}, ("a", "b"), ("a", "b", Way(1), 0), ["b", "c", Way(1)],
                ("e", "c", Way(1)), ("b", "e", Way(1)), (None, "c", Way(1)), ("b", None, Way(1)), (["b"], "c", Way(1)),
                ("b", {}, Way(1)), ("b", ("c",), Way(1)), ("b", "b", Way(1)), ("a", "c", Way(1)), ("c", "b", Way(1)),
                ("b", "c", None), ("b", "c", Way), ("b", "c", 1), ("b", "c", "Way(1, 1, 10)"), ("b", "c", machines["a"]),
                ("b", "c", (0, 0, None, (), 0, 0, None, ())), Way(1), (machines["a"], machines["b"], Way(1))):
            with self.subTest(wrong=wrong):
                self.refused(1, machines, [right, wrong])
                self.refused(1, machines, (right, wrong, None))
                self.refused(2, machines, [right, ("b", "a", Way(1)), wrong])
        for wrong in (None, ("a", "a", Way(1)), ("a", "b", 3)):
            self.refused(0, machines, [wrong])

    def test_twice_from_one_and_twice_to_one(self):
        machines = self.some(*"abcd")
        self.refused(2, machines, [("a", "b", Way(1)), ("c", "d", Way(1)), ("a", "c", Way(1))])
        self.refused(2, machines, [("a", "b", Way(1)), ("c", "d", Way(1)), ("b", "d", Way(1))])
        ring = [("a", "b", Way(1)), ("b", "c", Way(1)), ("c", "d", Way(1)), ("d", "a", Way(1))]
        self.assertEqual(len(Yard(machines, ring)), 4)
        self.assertEqual(len(Yard(self.some("a", "b"), (("a", "b", Way(1)), ("b", "a", Way(1))))), 2)

    def test_equal_ones_may_stand(self):
        machines = self.some("a", "b")
        self.assertEqual(machines["a"], machines["b"])
        self.assertEqual(len(Yard(machines, [("a", "b", Way(2)), ("b", "a", Way(2))])), 2)

    def test_what_is_done_to_the_dict_and_the_list_changes_nothing(self):
        machines, ways = {"b": machine(SAYS, 1, 3), "a": machine(HEARS)}, [("b", "a", way())]
        yard = Yard(machines, ways)
        kept = dict(machines)
        machines["c"] = machine(SAYS, 1, 3)
        del machines["a"]
        ways.clear()
        self.assertEqual(len(yard), 2)
        self.assertEqual(yard.beat(), [("b", "main", 3)])
        self.assertEqual([kept[name].now() for name in "ab"], [1, 1])
        self.assertEqual(machines["c"].now(), 0)
        self.assertEqual(yard.right_in(), 9)


class BeatTest(unittest.TestCase):
    def test_without_ways(self):
        machines = {"b": machine(SAYS, 1, 39), "a": machine(HEARS, 1, 5), "c": machine(SAYS, 1, 2)}
        yard = Yard(machines)
        self.assertEqual(yard.beat(), [("b", "main", 39), ("c", "main", 2)])
        # None is given, and there is room.
        self.assertEqual([machines[name].words() for name in "abc"], [(2, 0), (2, 1), (2, 1)])

    def test_kinds(self):
        yard = Yard({"a": machine(SAYS, 1, 39)})
        for beat in range(3):
            told = yard.beat()
            self.assertIs(type(told), list)
            self.assertEqual({type(one) for one in told} | {tuple}, {tuple})

    def test_given_and_taken(self):
        # The box's word is given; it is taken where a room stands at a hear.
        for place, box, x, left in ((1, 7, 8, None), (1, 0, 1, None), (1, None, 0, None)):
            goal, one = machine(HEARS, place, 5), way(0, 0, None, (), 0, 0, box, ())
            yard = Yard({"a": Machine(SAYS), "b": goal}, [("a", "b", one)])
            self.assertEqual(yard.beat(), [])
            self.assertEqual(goal.words(), (2, x))
            self.assertEqual(one.store()[6], left)
        for place in (0, 2):
            goal, one = machine(HEARS, place, 5), way(0, 0, None, (), 0, 0, 7, ())
            Yard({"a": Machine(SAYS), "b": goal}, [("a", "b", one)]).beat()
            self.assertEqual(one.store()[6], 7)

    def test_a_room_beneath_that_hears(self):
        program = pair((SET,), (HEAR,))
        for place, left in ((1, None), (4 + 1, None), (0, 7), (2, 7)):
            goal, one = machine(program, 0, 0, place, 0, 0, 0), way(0, 0, None, (), 0, 0, 7, ())
            Yard({"a": Machine(SAYS), "b": goal}, [("a", "b", one)]).beat()
            self.assertEqual(one.store()[6], left)

    def test_a_word_that_comes_at_this_beat(self):
        # By what stood ahead: the box was empty, so None is given, and the word that comes stays.
        goal, one = machine(HEARS, 1, 5), way(0, 0, None, ((1, 4),), 0, 0, None, ())
        Yard({"a": Machine(SAYS), "b": goal}, [("a", "b", one)]).beat()
        self.assertEqual(goal.words(), (2, 0))
        self.assertEqual(one.store()[4:7], (1, 1, 4))

    def test_room_and_put(self):
        # Room where the slot is None; what is said is put by the rest of the bound.
        for x, word in ((3, 3), (10, 0), (27, 7)):
            start, one = machine(SAYS, 1, x), way()
            yard = Yard({"a": start, "b": Machine(HEARS)}, [("a", "b", one)])
            self.assertEqual(yard.beat(), [("a", "main", x)])
            self.assertEqual((start.words(), one.store()[2]), ((2, 1), word))
        start, one = machine(SAYS, 1, 3), way(0, 0, 8, (), 0, 0, None, ())
        self.assertEqual(Yard({"a": start, "b": Machine(HEARS)}, [("a", "b", one)]).beat(), [])
        self.assertEqual((start.words(), one.store()[2]), ((2, 0), 8))

    def test_a_slot_that_becomes_free_at_this_beat(self):
        start, one = machine(SAYS, 1, 3), way(1, 1, 8, (), 1, 1, None, ((1, 1),))
        self.assertEqual(Yard({"a": start, "b": Machine(HEARS)}, [("a", "b", one)]).beat(), [])
        self.assertEqual((start.words(), one.store()[:3]), ((2, 0), (2, 0, None)))

    def test_nothing_said_nothing_put(self):
        for place in (0, 2):
            one = way()
            Yard({"a": machine(SAYS, place, 3), "b": Machine(HEARS)}, [("a", "b", one)]).beat()
            self.assertIsNone(one.store()[2])

    def test_the_first_of_what_is_said_is_put(self):
        program = Program((first((SET,)), other((SAY,)), other((SAY,), name="two")))
        start, one = machine(program, 0, 0, 1, 6, 0, 0, 1, 4, 0, 0), way(bound=4)
        yard = Yard({"a": start, "b": Machine(HEARS)}, [("a", "b", one)])
        self.assertEqual(yard.beat(), [("a", "sub", 6), ("a", "two", 4)])
        self.assertEqual(one.store()[2], 2)

    def test_names_rising(self):
        machines = {name: machine(SAYS, 1, at) for at, name in enumerate(("d", "b", "ba", "a"))}
        yard = Yard(machines, [("d", "a", way()), ("a", "b", way())])
        self.assertEqual(yard.beat(), [("a", "main", 3), ("b", "main", 1), ("ba", "main", 2), ("d", "main", 0)])

    def test_both_at_once(self):
        # A machine with a way to it and one from it.
        inner, into, out = machine(BOTH, 1, 0), way(0, 0, None, (), 0, 0, 6, ()), way(0, 0, 5, (), 0, 0, None, ())
        yard = Yard({"a": Machine(SAYS), "b": inner, "c": Machine(HEARS)}, [("a", "b", into), ("b", "c", out)])
        yard.beat()
        self.assertEqual((inner.words(), into.store()[6], out.store()[2]), ((2, 7), None, 5))
        self.assertEqual(yard.beat(), [("a", "main", 0)])
        self.assertEqual(inner.words(), (0, 0))

    def test_against_machines_and_ways_by_hand(self):
        source = random.Random(3)
        for turn in range(40):
            names = source.sample(("a", "b", "c", "dd"), source.randint(2, 4))
            machines = {name: Machine(source.choice((BOTH, HEARS, SAYS, house(3)))) for name in names}
            ways = self.some_ways(source, names)
            yard = Yard(machines, ways)
            others = {name: Machine(machines[name].program()) for name in names}
            twins = [(name, goal, Way(one.hold, miss=one.miss, bound=one.bound)) for name, goal, one in ways]
            for beat in range(30):
                lost = {at: (source.random() < 0.3, source.random() < 0.3) for at in range(len(ways))
                        if source.random() < 0.5}
                wanted = self.by_hand(others, twins, lost)
                if wanted is None:
                    with self.assertRaises(TooLost):
                        yard.beat(lost=lost)
                else:
                    self.assertEqual(yard.beat(lost=lost), wanted)
                self.assertEqual(machines, others)
                self.assertEqual([one for name, goal, one in ways], [one for name, goal, one in twins])

    def some_ways(self, source, names):
        goals = names[1:] + names[:1]
        return [
            (name, goal, Way(source.randint(1, 3), miss=source.randint(1, 3), bound=source.choice((1, 7, 40))))
            for name, goal in zip(names, goals) if source.random() < 0.8]

    def by_hand(self, machines, ways, lost):
        """What a beat does, each object by itself; None, and nothing done, where some way refuses."""
        stores = [one.store() for name, goal, one in ways]
        try:
            for at, (name, goal, one) in enumerate(copy.deepcopy(ways)):
                one.beat(lost=lost.get(at, (False, False)))
        except TooLost:
            return None
        said = {}
        hears = {name: self.hears(one) for name, one in machines.items()}
        for name, one in machines.items():
            given = [store[6] for (start, goal, two), store in zip(ways, stores) if goal == name]
            room = [store[2] is None for (start, goal, two), store in zip(ways, stores) if start == name]
            said[name] = one.beat(given[0] if given else None, room=room[0] if room else True)
        for at, (name, goal, one) in enumerate(ways):
            word = said[name][0][1] % one.bound if said[name] else None
            one.beat(word=word, taking=hears[goal], lost=lost.get(at, (False, False)))
        return [(name, room, number) for name in sorted(said) for room, number in said[name]]

    def hears(self, one):
        words = dict(zip(one.names(), one.words()))
        for room in one.program().rooms():
            found = places(one.program(), room.name)
            if found[words[(room.name, "place")] % len(found)][0] == "hear":
                return True
        return False


class LostTest(unittest.TestCase):
    def yard(self, *misses):
        names = "abcd"
        machines = {name: Machine(BOTH) for name in names}
        ways = [(names[at], names[at + 1], way(0, 0, None, ((0, None),), 0, 0, None, (), miss=miss))
                for at, miss in enumerate(misses)]
        return machines, ways, Yard(machines, ways)

    def test_by_the_numbers_of_ways(self):
        machines, ways, yard = self.yard(2, 2, 2)
        yard.beat(lost={1: (True, False), 2: (False, True)})
        self.assertEqual([one.store()[3] for name, goal, one in ways], [((0, None),), (), ((0, None),)])
        self.assertEqual([one.store()[7] for name, goal, one in ways], [((0, 0),), ((0, 0),), ()])

    def test_nothing_is_lost_where_nothing_is_told(self):
        for lost in ((), {}, {1: (False, False)}):
            machines, ways, yard = self.yard(1, 1)
            yard.beat(lost=lost)
            self.assertEqual([len(one) for name, goal, one in ways], [2, 2])

    def refused(self, yard, machines, ways, lost, side):
        ahead = [(machines[name].words(), machines[name].now(), machines[name].refills()) for name in machines]
        stores = [one.store() for name, goal, one in ways]
        with self.assertRaises(TooLost) as caught:
            yard.beat(lost=lost)
        self.assertEqual(caught.exception.side, side)
        self.assertEqual(
            [(machines[name].words(), machines[name].now(), machines[name].refills()) for name in machines], ahead)
        self.assertEqual([one.store() for name, goal, one in ways], stores)

    def test_too_lost(self):
        machines, ways, yard = self.yard(2, 1, 1)
        both = (True, True)
        self.refused(yard, machines, ways, {1: (True, False)}, "letters")
        self.refused(yard, machines, ways, {1: (False, True), 2: (True, True)}, "echoes")
        self.refused(yard, machines, ways, {2: (True, True), 1: (False, True)}, "echoes")
        self.refused(yard, machines, ways, {0: both, 1: both}, "letters")
        self.refused(yard, machines, ways, {0: both, 2: (False, True)}, "echoes")
        # What was refused did not count: way 0 may lose once.
        yard.beat(lost={0: both})
        self.refused(yard, machines, ways, {0: (True, False), 1: (False, True)}, "letters")
        self.assertEqual([one.now() for one in machines.values()], [1] * 4)

    def test_by_name_alone(self):
        machines, ways, yard = self.yard(2)
        with self.assertRaises(TypeError):
            yard.beat({0: (True, False)})


class RightTest(unittest.TestCase):
    def test_right_in(self):
        self.assertEqual(Yard({"a": Machine(alone(()))}).right_in(), 1)
        machines = {"a": Machine(BOTH), "b": Machine(house(3))}
        self.assertEqual(Yard(machines).right_in(), beats_of(house(3)))
        small = {"a": Machine(BOTH), "b": Machine(HEARS), "c": Machine(BOTH)}
        ways = [("a", "b", Way(2, miss=2)), ("b", "c", Way(6, miss=4)), ("c", "a", Way(1))]
        self.assertEqual(Yard(small, ways).right_in(), way_beats(6, miss=4))
        self.assertEqual(Yard(small, ways[:1]).right_in(), way_beats(2, miss=2))
        self.assertEqual(Yard(machines, [("a", "b", Way(6, miss=4))]).right_in(), beats_of(house(3)))

    def test_right_in_by_the_programs_as_they_are(self):
        one = Machine(BOTH)
        yard = Yard({"a": one, "b": Machine(HEARS)}, [("a", "b", Way(1))])
        self.assertEqual(yard.right_in(), 5)
        one.swap(first((SET,) * 12, boxes=(("x", 40, 0),)))
        self.assertEqual(yard.right_in(), 13)
        one.swap(first((), boxes=(("x", 40, 0),)))
        self.assertEqual(yard.right_in(), 5)

    def test_is_right(self):
        one, two, between = machine(BOTH), machine(alone((SET,), sayings=(X_IS_ZERO,))), way()
        yard = Yard({"a": one, "b": two}, [("a", "b", between)])
        self.assertIs(yard.is_right(), True)
        two.spoil(1, 3)
        self.assertIs(yard.is_right(), False)
        two.spoil(1, 7)
        self.assertIs(yard.is_right(), True)
        between.spoil((0, 1, None, (), 0, 0, None, ()))
        self.assertIs(yard.is_right(), False)
        between.spoil((0, 1, 3, (), 0, 0, None, ()))
        self.assertIs(yard.is_right(), True)
        self.assertIs(Yard({"a": machine(pair((("call", "x", "sub", X),)), 3, 0, 0, 0, 0, 0)}).is_right(), False)

    def test_right_behind_its_beats_for_ever(self):
        source = random.Random(5)
        drawn = [program for chance, program in let_programs(range(60)) if beats_of(program) < 400]
        for turn in range(60):
            names = source.sample("abcd", source.randint(1, 4))
            machines = {name: Machine(source.choice(drawn)) for name in names}
            ways = BeatTest.some_ways(self, source, names) if len(names) > 1 else []
            for one in machines.values():
                for at in range(len(one)):
                    one.spoil(at, source.randrange(1000000))
            for name, goal, one in ways:
                one.spoil(any_store(source, one.hold, one.bound))
            yard = Yard(machines, ways)
            for beat in range(yard.right_in()):
                self.lossy(source, yard, len(ways))
            took = [one.refills() for one in machines.values()]
            for beat in range(30):
                self.assertTrue(yard.is_right())
                self.lossy(source, yard, len(ways))
            self.assertEqual([one.refills() for one in machines.values()], took)

    def lossy(self, source, yard, many):
        lost = {at: (source.random() < 0.5, source.random() < 0.5) for at in range(many)}
        try:
            return yard.beat(lost=lost)
        except TooLost:
            return yard.beat()

    def test_each_word_once_and_in_order(self):
        # a says 0, 1, 2 .. as there is room; b says what it hears, which its box has with 1 put to it.
        more = ("if", ("is", ("box", "r"), ONE), (("set", "x", ("plus", X, ONE)),), ())
        counter = Program((first((("say", "r", X), more), boxes=(("r", 2, 0), ("x", 40, 0))),))
        heard = ("if", X_IS_ZERO, (), (("say", "x", ("less", X, ONE)),))
        hearer = Program((first((HEAR, heard), boxes=(("x", 40, 0),)),))
        source = random.Random(6)
        for turn in range(20):
            machines = {"a": Machine(counter), "b": Machine(hearer)}
            one = Way(source.randint(1, 4), miss=source.randint(1, 4), bound=39)
            one.spoil(any_store(source, one.hold, 39))
            yard = Yard(machines, [("a", "b", one)])
            for beat in range(yard.right_in()):
                self.lossy(source, yard, 1)
            # What b has heard, but not said as yet, came ahead of what is under way.
            place, x = machines["b"].words()
            wanted, got = [x - 1] * (place in (2, 3) and x > 0) + one.under_way(), []
            for beat in range(400):
                for name, room, number in self.lossy(source, yard, 1):
                    (wanted if name == "a" else got).append(number % 39)
            self.assertGreater(len(got), 20)
            self.assertEqual(got, wanted[:len(got)])


class ByHandTest(unittest.TestCase):
    """A yard does its very machines and ways, whatever else is done to them."""

    def test_gone_on_spoilt_and_swapped_between_beats(self):
        one, two, between = machine(SAYS), machine(HEARS), way()
        yard = Yard({"a": one, "b": two}, [("a", "b", between)])
        self.assertEqual(yard.beat(), [])
        one.spoil(1, 30)
        self.assertEqual(yard.beat(), [("a", "main", 30)])
        self.assertEqual((one.now(), between.store()[2]), (2, 0))
        one.beat()
        self.assertEqual(one.words(), (0, 2))
        one.swap(first((SAY, SAY, SAY), boxes=(("x", 40, 0),)))
        between.spoil((0, 0, None, (), 0, 0, 8, ()))
        two.spoil(0, 1)
        self.assertEqual(yard.beat(), [])
        self.assertEqual((two.words(), between.store()[6]), ((2, 9), None))
        self.assertEqual(yard.beat(), [("a", "main", 2)])
        between.beat(taking=True)
        self.assertEqual((one.now(), two.now()), (5, 4))

    def test_in_two_yards(self):
        one, two, three = machine(SAYS), machine(HEARS), machine(HEARS)
        first_yard = Yard({"a": one, "b": two}, [("a", "b", way())])
        second_yard = Yard({"x": one, "y": three})
        for turn in range(3):
            first_yard.beat()
            second_yard.beat()
        self.assertEqual((one.now(), two.now(), three.now()), (6, 3, 3))

    def test_within_a_trial(self):
        one, two, between = machine(SAYS, 1, 5), machine(HEARS), way()
        yard = Yard({"a": one, "b": two}, [("a", "b", between)])
        said = one.trial(lambda same: [yard.beat() for beat in range(4)])
        self.assertEqual(said[0], [("a", "main", 5)])
        self.assertEqual((one.now(), one.words()), (0, (1, 5)))
        self.assertEqual(two.now(), 4)
        self.assertNotEqual(between, way())
        self.assertEqual(between.store()[2], 5)

    def test_a_refused_beat_within_a_trial(self):
        one, two = machine(SAYS, 1, 5), machine(HEARS)
        yard = Yard({"a": one, "b": two}, [("a", "b", way())])
        with self.assertRaises(TooLost):
            one.trial(lambda same: (yard.beat(), yard.beat(lost={0: (True, True)})))
        self.assertEqual((one.now(), two.now()), (0, 1))
