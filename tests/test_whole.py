"""Point 3: what is promised of the whole: of machines, their programs and bounds, editions, ways and yards."""

import unittest

from anystore.bounds import beats_home, beats_of, beats_right
from anystore.editions import swapped
from anystore.errors import NoEdition, NotLet, TooLost, TooMany
from anystore.machines import Machine
from anystore.places import places
from anystore.plain import Plain
from anystore.programs import Room
from anystore.reading import read_program
from anystore.stands import stand_of
from anystore.terms import holds
from anystore.ways import Way
from anystore.yard import Yard
from tests.chance import Chance, programs, small_programs
from tests.letby import let_programs
from tests.samples import HEAR, X, alone, house
from tests.test_ways import any_store

MANY = 999999
MOST_BEATS = 1500


def spoil_all(source, machine, rooms=None):
    """Spoil all words, or those of these rooms, to any."""
    for at, name in enumerate(machine.names()):
        if rooms is None or name[0] in rooms:
            machine.spoil(at, source.choice((0, 1, 2, 3, source.randrange(MANY + 1), MANY)))


def outside(source):
    return source.choice((None, 0, 1, 3, MANY)), source.random() < 0.7


def meant(machine):
    """By the rooms' names what they stand at, their boxes, asked and told, whatever the others do."""
    program = machine.program()
    words = dict(zip(machine.names(), machine.words()))
    found = {}
    for room in program.rooms():
        step = places(program, room.name)
        boxes = {box: words[(room.name, "box", box)] % bound for box, bound, number in room.boxes}
        asked, told = 0, 0
        if room.above:
            asked, told = words[(room.name, "asked")] % room.ask, words[(room.name, "told")] % room.told[0]
        found[room.name] = (step[words[(room.name, "place")] % len(step)][0], boxes, asked, told)
    return found


def is_right(room, kind, boxes, asked, told):
    """Whether a room has its sayings if it is at home, and keeps its promise if it tells."""
    if kind == "home":
        return all(holds(saying, boxes) for saying in room.sayings)
    return kind != "told" or room.promise is None or holds(room.promise, {}, asked=asked, told=told)


def below(program, name):
    """The names of a room and of all beneath it."""
    return [name] + [lower for beneath in program.beneath(name) for lower in below(program, beneath)]


class TogetherTest(unittest.TestCase):
    """A machine and the plain reading, from each stand on; also of programs that are not let by."""

    def together(self, source, machine, plain, beats):
        nones = 0
        before = machine.refills()
        for beat in range(beats):
            given, room = outside(source)
            self.assertEqual(machine.beat(given, room=room), plain.beat(given, room=room))
            self.assertEqual(machine.stand(), plain.stand())
            took = tuple(late - early for early, late in zip(before, machine.refills()))
            self.assertEqual(took, plain.refills())
            nones += machine.stand() is None
        return nones

    def test_from_the_beginning(self):
        nones, took = 0, 0
        for drawn in (programs(range(80)), small_programs(range(80)), [(Chance(1).source, house(2))]):
            for source, program in drawn:
                machine, plain = Machine(program), Plain(program)
                self.assertEqual(machine.stand(), plain.stand())
                nones += self.together(source, machine, plain, 80)
                took += sum(machine.refills())
        self.assertGreater(min(nones, took), 50)

    def test_from_words_that_mean_a_stand(self):
        many, nones = 0, 0
        for source, program in small_programs(range(150)):
            for turn in range(12):
                machine = Machine(program)
                for beat in range(source.randrange(4)):
                    machine.beat(1)
                for at in source.sample(range(len(machine)), min(len(machine), source.randrange(6))):
                    machine.spoil(at, source.choice((0, 1, 2, source.randrange(MANY))))
                stand = machine.stand()
                self.assertEqual(stand, stand_of(program, machine.words()))
                if stand is not None:
                    nones += self.together(source, machine, Plain(program, stand=stand), 12)
                    many += 1
        self.assertGreater(many, 200)
        self.assertGreater(nones, 10)


class LetTest(unittest.TestCase):
    """Programs that are let by."""

    def test_never_spoilt(self):
        for source, program in let_programs(range(120)):
            machine, plain = Machine(program), Plain(program)
            for beat in range(150):
                given, room = outside(source)
                self.assertEqual(machine.beat(given, room=room), plain.beat(given, room=room))
                self.assertIsNotNone(machine.stand())
            self.assertEqual(machine.refills(), (0,) * len(program))
            self.assertEqual(plain.refills(), (0,) * len(program))

    def all_right(self, machine):
        rooms = machine.program().rooms()
        found = meant(machine)
        return all(is_right(room, *found[room.name]) for room in rooms)

    def test_spoilt(self):
        many, took = 0, 0
        for source, program in let_programs(range(260)):
            if beats_of(program) > MOST_BEATS:
                continue
            machine = Machine(program)
            for turn in range(2):
                spoil_all(source, machine)
                for beat in range(beats_of(program)):
                    given, room = outside(source)
                    machine.beat(given, room=room)
                ahead = machine.refills()
                plain = Plain(program, stand=machine.stand())
                self.assertIsNotNone(machine.stand())
                for beat in range(60):
                    given, room = outside(source)
                    self.assertEqual(machine.beat(given, room=room), plain.beat(given, room=room))
                    self.assertEqual(machine.stand(), plain.stand())
                    self.assertIsNotNone(machine.stand())
                    self.assertTrue(self.all_right(machine))
                self.assertEqual(machine.refills(), ahead)
                took += sum(ahead)
            many += 1
        self.assertGreater(many, 100)
        self.assertGreater(took, 20)

    def test_each_room_comes_home_in_time(self):
        for source, program in let_programs(range(160)):
            if beats_of(program) > MOST_BEATS:
                continue
            machine = Machine(program)
            spoil_all(source, machine)
            home = {}
            for beat in range(1, beats_of(program) + 1):
                at_home = [name for name, row in meant(machine).items() if row[0] == "home"]
                given, room = outside(source)
                machine.beat(given, room=room)
                for name in at_home:
                    home.setdefault(name, beat)
            for room in program.rooms():
                if beats_home(program, room.name) <= beats_of(program):
                    self.assertLessEqual(home[room.name], beats_home(program, room.name))

    def test_each_room_is_right_in_time(self):
        for source, program in let_programs(range(160)):
            if beats_of(program) > MOST_BEATS:
                continue
            machine = Machine(program)
            spoil_all(source, machine)
            right = [beats_right(program, room.name) for room in program.rooms()]
            for beat in range(1, beats_of(program) + 20):
                ahead = machine.refills()
                given, room = outside(source)
                machine.beat(given, room=room)
                found = meant(machine)
                for at, one in enumerate(program.rooms()):
                    if beat > right[at]:
                        self.assertEqual(machine.refills()[at], ahead[at])
                    if beat >= right[at]:
                        self.assertTrue(is_right(one, *found[one.name]))

    def test_rooms_that_are_left_alone(self):
        told = 0
        for source, program in let_programs(range(200)):
            if len(program) == 1:
                continue
            kept = source.choice(program.rooms()[1:]).name
            left = below(program, kept)
            others = [room.name for room in program.rooms() if room.name not in left]
            machine = Machine(program)
            for beat in range(120):
                if source.random() < 0.3:
                    spoil_all(source, machine, others)
                if source.random() < 0.1:
                    # The same text put in anew is an edition, too.
                    machine.swap(machine.program().room_of(source.choice(others)))
                given, room = outside(source)
                machine.beat(given, room=room)
                found = meant(machine)
                for name in left:
                    self.assertTrue(is_right(program.room_of(name), *found[name]))
                    told += found[name][0] == "told"
            took = dict(zip([room.name for room in program.rooms()], machine.refills()))
            self.assertEqual([took[name] for name in left], [0] * len(left))
        self.assertGreater(told, 500)


class EditionsTest(unittest.TestCase):
    def edition(self, source, seed, program, name):
        """Another text of a room, None where the drawn one is not let by."""
        elder = program.room_of(name)
        owns = [box[0] for box in elder.boxes]
        words = ("asked",) if elder.above else ()
        chance = Chance(seed, mosts=(1, 2))
        body = chance.whole_body(owns, words, program.beneath(name))
        told = None if elder.told is None else (elder.told[0], chance.expression(owns, words, 2))
        room = Room(
            name, above=elder.above, boxes=elder.boxes, sayings=elder.sayings, ask=elder.ask, told=told,
            promise=elder.promise, body=body)
        try:
            swapped(program, room)
        except (NotLet, TooMany):
            return None
        except NoEdition:
            self.fail("an edition that is one")
        return room

    def test_put_in_while_its_room_is_at_home(self):
        many = 0
        for seed, (source, program) in enumerate(let_programs(range(200))):
            machine = Machine(program)
            name = source.choice(program.rooms()).name
            room = self.edition(source, seed, program, name)
            if room is None:
                continue
            for beat in range(300):
                at_home = meant(machine)[name][0] == "home"
                if beat > source.randrange(60) and at_home:
                    break
                machine.beat(*outside(source)[:1])
            machine.swap(room)
            self.assertEqual(machine.program(), swapped(program, room))
            plain = Plain(machine.program(), stand=machine.stand())
            self.assertIsNotNone(machine.stand())
            for beat in range(60):
                given, has_room = outside(source)
                self.assertEqual(machine.beat(given, room=has_room), plain.beat(given, room=has_room))
                self.assertEqual(machine.stand(), plain.stand())
            self.assertEqual(machine.refills(), (0,) * len(program))
            many += 1
        self.assertGreater(many, 60)

    def test_put_in_at_any_time(self):
        many = 0
        for seed, (source, program) in enumerate(let_programs(range(160))):
            machine = Machine(program)
            for turn in range(3):
                for beat in range(source.randrange(20)):
                    machine.beat(*outside(source)[:1])
                name = source.choice(program.rooms()).name
                room = self.edition(source, seed + 1000 * turn, machine.program(), name)
                if room is not None:
                    machine.swap(room)
                    many += 1
            beats = beats_of(machine.program())
            if beats > MOST_BEATS:
                continue
            for beat in range(beats):
                machine.beat(*outside(source)[:1])
            ahead = machine.refills()
            for beat in range(40):
                self.assertIsNotNone(machine.stand())
                machine.beat(*outside(source)[:1])
            self.assertEqual(machine.refills(), ahead)
        self.assertGreater(many, 100)


class YardsTest(unittest.TestCase):
    """Machines, editions, ways and yards together."""

    def lossy(self, source, yard, many):
        lost = {at: (source.random() < 0.5, source.random() < 0.5) for at in range(many) if source.random() < 0.9}
        try:
            return yard.beat(lost=lost)
        except TooLost:
            return yard.beat()

    def test_spoilt_swapped_and_lost(self):
        drawn = [program for source, program in let_programs(range(80)) if beats_of(program) < 300]
        drawn += [alone((HEAR, ("say", "x", X), HEAR, ("say", "x", X)))] * len(drawn)
        source = Chance(25).source
        put_in, carried = 0, 0
        for turn in range(60):
            machines = {name: Machine(source.choice(drawn)) for name in ("a", "b", "c")}
            ways = [
                (name, goal, Way(source.randint(1, 3), miss=source.randint(1, 3), bound=7))
                for name, goal in (("a", "b"), ("b", "c"), ("c", "a"))]
            yard = Yard(machines, ways)
            for round_of_it in range(3):
                for machine in machines.values():
                    if source.random() < 0.25:
                        put_in += self.swap(source, turn, machine)
                    spoil_all(source, machine)
                for name, goal, way in ways:
                    way.spoil(any_store(source, way.hold, 7))
                for beat in range(source.randrange(8)):
                    self.lossy(source, yard, 3)
            for beat in range(yard.right_in()):
                self.lossy(source, yard, 3)
            carried += self.goes_on_plainly(source, yard, machines, ways)
        self.assertGreater(put_in, 50)
        self.assertGreater(carried, 80)

    def swap(self, source, seed, machine):
        name = source.choice(machine.program().rooms()).name
        room = EditionsTest.edition(self, source, seed, machine.program(), name)
        if room is not None:
            machine.swap(room)
        return room is not None

    def goes_on_plainly(self, source, yard, machines, ways):
        """For each machine a plain reading that is given the same says the same; told is how many words were carried."""
        took = [machine.refills() for machine in machines.values()]
        plains = {name: Plain(machine.program(), stand=machine.stand()) for name, machine in machines.items()}
        wanted = [way.under_way() for name, goal, way in ways]
        many = 0
        for beat in range(40):
            self.assertTrue(yard.is_right())
            stores = [way.store() for name, goal, way in ways]
            said = self.lossy(source, yard, 3)
            for at, (name, goal, way) in enumerate(ways):
                into = [store for (start, to, other), store in zip(ways, stores) if to == name][0]
                told = plains[name].beat(into[6], room=stores[at][2] is None)
                self.assertEqual([one[1:] for one in said if one[0] == name], list(told))
                self.assertEqual(machines[name].stand(), plains[name].stand())
                wanted[at] += [number % 7 for room, number in told[:1]]
                # What has left the box was the first that was under way.
                left = len(wanted[at]) - len(way.under_way())
                self.assertIn(left, (0, 1))
                if left == 1:
                    self.assertEqual(stores[at][6], wanted[at].pop(0))
                    many += 1
                self.assertEqual(way.under_way(), wanted[at])
        self.assertEqual([machine.refills() for machine in machines.values()], took)
        return many


class WrittenTest(unittest.TestCase):
    def test_what_is_written_is_read_again(self):
        for source, program in let_programs(range(60)):
            self.assertEqual(read_program(str(program)), program)
            machine = Machine(read_program(str(program)))
            self.assertEqual(machine, Machine(program))
