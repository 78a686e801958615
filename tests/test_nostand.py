"""Points 2, 11 and 13: things from which no plain reading is begun."""

import unittest

from anystore.errors import NoStand
from anystore.plain import Plain
from anystore.programs import Program, Room
from anystore.stands import stand_of
from tests.chance import programs
from tests.samples import ASKED, CALL, HEAR, SET, X, X_IS_ZERO, alone, first, other, pair
from tests.words import Words

# main: home, for, check, ask, clear, again, set; sub: home, for, check, hear, tell, told
PROGRAM = Program((
    first((("for", X, 3, (CALL,)), SET), sayings=(("below", X, ("number", 5)),)), other((("for", ASKED, 2, (HEAR,)),))))
HOME = (0, (0,), (0,), 0, 0)
STANDS = (
    (HOME, HOME), ((2, (3,), (6,), 0, 0), HOME), ((3, (2,), (6,), 0, 0), (3, (1,), (5,), 1, 0)),
    ((3, (0,), (3,), 0, 0), (5, (0,), (5,), 3, 5)), ((4, (1,), (6,), 0, 0), (5, (0,), (5,), 4, 5)),
    ((6, (0,), (6,), 0, 0), HOME))
# The greatest numbers of each row of a stand: place, counts, boxes, asked, told.
MOSTS = ((6, (3,), (6,), 0, 0), (5, (2,), (6,), 4, 5))
STRANGE = (
    None, True, False, -1, 10 ** 29, -10 ** 29, "", "0", (), (None,), [], [0], {}, {"0": 0}, Room("a"), PROGRAM,
    Plain(PROGRAM))


class NoStandCase(unittest.TestCase):
    def refused(self, thing, program=PROGRAM):
        with self.assertRaises(NoStand, msg=repr(thing)):
            Plain(program, stand=thing)
        with self.assertRaises(ValueError):
            Plain(program=program, stand=thing)

    def let(self, thing, program=PROGRAM):
        self.assertEqual(Plain(program, stand=thing).stand(), thing)


def put(thing, way, part):
    """The same nested tuples with another part at the place to which the way leads."""
    if not way:
        return part
    return tuple(put(one, way[1:], part) if at == way[0] else one for at, one in enumerate(thing))


def ways(thing):
    """The ways to all parts, itself counted."""
    found = [()]
    if isinstance(thing, tuple):
        for at, one in enumerate(thing):
            found.extend((at, *way) for way in ways(one))
    return found


def at_end(thing, way):
    for at in way:
        thing = thing[at]
    return thing


class FormTest(NoStandCase):
    def test_these_are_stands(self):
        for stand in STANDS:
            self.let(stand)

    def test_any_things(self):
        for thing in STRANGE:
            if thing is not None:
                self.refused(thing)
            self.refused((thing,))
            self.refused((HOME, thing))
            self.refused((thing, HOME))
            self.refused((thing, thing))
            self.refused([HOME, HOME, thing])
            self.refused({"main": thing, "sub": thing})

    def test_any_thing_in_the_place_of_each_part(self):
        for stand in STANDS:
            for way in ways(stand):
                for thing in STRANGE:
                    if way or thing is not None:
                        self.refused(put(stand, way, thing))

    def test_lists_for_tuples(self):
        for stand in STANDS:
            for way in ways(stand):
                part = at_end(stand, way)
                if isinstance(part, tuple):
                    self.refused(put(stand, way, list(part)))
                    self.refused(put(stand, way, dict.fromkeys("ab", part)))

    def test_truths_for_numbers(self):
        for stand in STANDS:
            for way in ways(stand):
                part = at_end(stand, way)
                if part in (0, 1):
                    self.refused(put(stand, way, part == 1))

    def test_one_part_more_and_one_fewer(self):
        for stand in STANDS:
            for way in ways(stand):
                part = at_end(stand, way)
                if isinstance(part, tuple):
                    for more in (0, HOME, None, *part[-1:]):
                        self.refused(put(stand, way, (*part, more)))
                        self.refused(put(stand, way, (more, *part)))
                    self.refused(put(stand, way, part[:-1]))
                    self.refused(put(stand, way, part[1:]))
                    self.refused(put(stand, way, ()))

    def test_numbers_at_their_bounds_and_below_0(self):
        for stand in STANDS:
            for way in ways(MOSTS):
                most = at_end(MOSTS, way)
                if isinstance(most, int):
                    for number in (most + 1, most + 2, most + 41, -1, -2, -most - 1, -10 ** 20, 10 ** 29):
                        self.refused(put(stand, way, number))

    def test_stands_of_other_programs(self):
        others = (
            alone((SET,)), pair((CALL,)), pair((SET, CALL), (SET,)), Program((Room("a"),)),
            Program((*PROGRAM.rooms(), other(name="next"))))
        for program in others:
            self.refused(Plain(program).stand())
            for stand in STANDS:
                self.refused(stand, program)

    def test_what_is_refused_changes_nothing(self):
        thing = [[0, [0], [0], 0, 0], [0, [0], [0], 0, 0]]
        self.refused(thing)
        self.assertEqual(thing, [[0, [0], [0], 0, 0], [0, [0], [0], 0, 0]])
        self.assertEqual(Plain(PROGRAM).stand(), (HOME, HOME))


class MeaningTest(NoStandCase):
    """Right forms that are no stands (point 13), or tell what a stand tells as 0 (point 11)."""

    def test_counts_outside_of_their_fors(self):
        for place in (0, 1, 6):
            self.let(((place, (0,), (0,), 0, 0), HOME))
            self.refused(((place, (1,), (0,), 0, 0), HOME))
        self.refused((HOME, (0, (1,), (0,), 0, 0)))

    def test_counts_within_their_fors(self):
        self.let(((2, (3,), (0,), 0, 0), HOME))
        self.let(((3, (2,), (0,), 0, 0), HOME))
        self.refused(((3, (3,), (0,), 0, 0), HOME))
        self.refused(((4, (3,), (0,), 0, 0), HOME))
        self.let(((3, (2,), (0,), 0, 0), (2, (2,), (0,), 0, 0)))
        self.refused(((3, (2,), (0,), 0, 0), (3, (2,), (0,), 0, 0)))

    def test_asked_and_told(self):
        self.refused(((0, (0,), (0,), 1, 0), HOME))
        self.refused(((2, (0,), (0,), 1, 0), HOME))
        self.refused(((2, (0,), (0,), 0, 1), HOME))
        self.refused((HOME, (0, (0,), (0,), 1, 0)))
        self.refused((HOME, (0, (0,), (0,), 0, 1)))
        for place in (1, 2, 3, 4):
            self.let(((3, (0,), (2,), 0, 0), (place, (0,), (0,), 2, 0)))
            self.refused(((3, (0,), (2,), 0, 0), (place, (0,), (0,), 2, 1)))
        self.let(((3, (0,), (2,), 0, 0), (5, (0,), (0,), 2, 1)))

    def test_calls(self):
        for place in range(1, 6):
            sub = (place, (0,), (0,), 2, 0)
            for main in (0, 1, 2, 6):
                self.refused(((main, (0,), (2,), 0, 0), sub))
            self.let(((3, (0,), (2,), 0, 0), sub))
            self.refused(((3, (0,), (3,), 0, 0), sub))
            if place == 5:
                self.let(((4, (0,), (3,), 0, 0), sub))
            else:
                self.refused(((4, (0,), (3,), 0, 0), sub))
            self.refused(((5, (0,), (2,), 0, 0), sub))
        self.let(((4, (0,), (3,), 0, 0), HOME))
        self.refused(((5, (0,), (3,), 0, 0), HOME))

    def test_sayings(self):
        self.let(((0, (0,), (4,), 0, 0), HOME))
        self.refused(((0, (0,), (5,), 0, 0), HOME))
        self.let(((6, (0,), (5,), 0, 0), HOME))
        program = Program((first((CALL,)), Room(
            "sub", above="main", boxes=(("x", 7, 0),), sayings=(X_IS_ZERO,), ask=5, told=(6, X), body=(SET,))))
        self.refused(((2, (), (0,), 0, 0), (0, (), (1,), 0, 0)), program)
        self.let(((2, (), (0,), 0, 0), (3, (), (1,), 0, 0)), program)

    def test_none_while_a_room_at_home_lacks_a_saying(self):
        plain = Plain(alone((SET,), sayings=(X_IS_ZERO,)))
        plain.beat()
        plain.beat()
        self.assertIsNone(plain.stand())
        self.refused(((0, (), (1,), 0, 0),), alone((SET,), sayings=(X_IS_ZERO,)))

    def test_just_what_words_mean(self):
        """By chance: a right form is let by just where words that are written so mean it."""
        found = {True: 0, False: 0}
        for source, program in programs(range(80)):
            words = Words(program)
            bounds = words.bounds()
            for k in range(25):
                for beat in range(source.randint(0, 4)):
                    words.beat(source.choice((None, 4)), source.choice((True, False)))
                spoilt = [word % bound for word, bound in zip(words.words, bounds)]
                for at in source.sample(range(len(spoilt)), min(len(spoilt), source.randint(0, 2))):
                    spoilt[at] = source.randrange(bounds[at])
                meant = Words(program, spoilt).meant().values()
                thing = tuple((
                    row["place"], tuple(row["counts"]), tuple(row["boxes"].values()), row["asked"], row["told"])
                    for row in meant)
                found[stand_of(program, tuple(spoilt)) == thing] += 1
                if stand_of(program, tuple(spoilt)) == thing:
                    self.let(thing, program)
                else:
                    self.refused(thing, program)
        self.assertGreater(min(found.values()), 200)
