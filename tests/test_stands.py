"""Points 2, 11 and 13: what words mean."""

import unittest

from anystore.programs import Program, Room
from anystore.stands import stand_of
from tests.chance import programs
from tests.samples import ASKED, CALL, HEAR, ONE, SAY, SET, TWO, X, X_IS_ZERO, alone, other, pair
from tests.words import Words

MANY = 999999
HOME = (0, (), (0,), 0, 0)


class OneRoomTest(unittest.TestCase):
    def check(self, program, words, *rows):
        self.assertEqual(stand_of(program, words), rows)

    def test_the_least(self):
        program = Program((Room("a"),))
        for word in (0, 1, 7, MANY):
            self.check(program, (word,), (0, (), (), 0, 0))

    def test_kinds(self):
        told = stand_of(alone((SET, ("for", X, 3, ()))), (3, 2, 6))
        self.assertEqual(told, ((3, (2,), (6,), 0, 0),))
        self.assertEqual([type(part) for part in (told, told[0], told[0][1], told[0][2])], [tuple] * 4)
        self.assertEqual({type(number) for number in (told[0][0], *told[0][1], *told[0][2], *told[0][3:])}, {int})

    def test_places_by_their_rest(self):
        program = alone((SET, HEAR))
        for place in range(3):
            for word in range(place, 1000000, 99999 * 3):
                self.check(program, (word, 0), (place, (), (0,), 0, 0))
        self.check(program, (MANY, 0), (MANY % 3, (), (0,), 0, 0))
        self.check(program, (MANY - 1, 0), ((MANY - 1) % 3, (), (0,), 0, 0))

    def test_boxes_by_their_rest(self):
        program = alone((("hear", "a"),), boxes=(("a", 1, 0), ("b", 40, 39), ("c", 7, 3), ("d", 2, 1)))
        self.check(program, (1, 0, 0, 0, 0), (1, (), (0, 0, 0, 0), 0, 0))
        self.check(program, (1, 1, 40, 7, 2), (1, (), (0, 0, 0, 0), 0, 0))
        self.check(program, (1, MANY, MANY, MANY - 1, MANY), (1, (), (0, 39, 6, 1), 0, 0))
        self.check(program, (1, 0, 39, 6, 1), (1, (), (0, 39, 6, 1), 0, 0))

    def test_counts_by_their_rest(self):
        program = alone((("for", X, 3, (SET,)),))
        for word, count in ((0, 0), (2, 2), (3, 3), (4, 0), (7, 3), (MANY, MANY % 4)):
            self.check(program, (2, word, 5), (2, (count,), (5,), 0, 0))

    def test_counts_outside_of_their_fors_are_0(self):
        program = alone((SET, ("for", X, 3, (SET, ("for", X, 9, ()), SET)), ("for", X, 1, ()), SET))
        # home, set, for 0, check 0, set, for 1, check 1, set, for 2, check 2, set
        within = {3: (0,), 4: (0,), 5: (0,), 6: (0, 1), 7: (0,), 9: (2,)}
        for place in range(11):
            counts = [2 if number in within.get(place, ()) else 0 for number in range(3)]
            words = (place, 2, 2, 1, 4)
            if counts[2]:
                counts[2] = 1
            self.check(program, words, (place, tuple(counts), (4,), 0, 0))

    def test_a_count_within_its_body_is_below_its_most(self):
        program = alone((("for", X, 3, (SET, ("for", X, 9, (HEAR,)), SAY)),))
        # home, for 0, check 0, set, for 1, check 1, hear, say
        for place in range(8):
            for outer in range(4):
                for inner in range(10):
                    fits = (outer < 3 or place < 3) and (inner < 9 or place != 6)
                    told = stand_of(program, (place, outer + 4, inner + 20, 0))
                    self.assertEqual(told is not None, fits, (place, outer, inner))

    def test_counts_in_both_bodies_of_an_if(self):
        program = alone((("if", X_IS_ZERO, (("for", X, 2, (SET,)),), (SET, ("for", X, 5, (SET,)))), SET))
        # home, if, for 0, check 0, set, set, for 1, check 1, set, set
        for place, counts in (
                (3, (1, 0)), (4, (1, 0)), (5, (0, 0)), (6, (0, 0)), (7, (0, 1)), (8, (0, 1)), (9, (0, 0))):
            self.check(program, (place, 1, 1, 0), (place, counts, (0,), 0, 0))
        self.assertIsNone(stand_of(program, (4, 2, 1, 0)))
        self.assertIsNone(stand_of(program, (8, 2, 5, 0)))
        self.check(program, (8, 2, 4, 0), (8, (0, 4), (0,), 0, 0))

    def test_sayings_at_home(self):
        program = alone((SET,), sayings=(X_IS_ZERO, ("below", X, TWO)))
        self.check(program, (0, 0), (0, (), (0,), 0, 0))
        self.check(program, (0, 7), (0, (), (0,), 0, 0))
        for word in (1, 6, 8, MANY - 1):
            self.assertIsNone(stand_of(program, (0, word)))
            self.assertIsNone(stand_of(program, (2, word)))
            self.check(program, (1, word), (1, (), (word % 7,), 0, 0))


class CallsTest(unittest.TestCase):
    """main: home, set, ask, clear, again; sub: home, set, tell, told; x below 7, asked below 5, told below 6."""

    PROGRAM = pair((SET, CALL), (SET,))

    def check(self, words, main, sub):
        self.assertEqual(stand_of(self.PROGRAM, words), (main, sub), words)

    def none(self, *words):
        self.assertIsNone(stand_of(self.PROGRAM, words), words)

    def test_at_home(self):
        for place in (0, 1):
            self.check((place, 3, 0, 4, 0, 0), (place, (), (3,), 0, 0), (0, (), (4,), 0, 0))

    def test_asked_is_0_at_home_and_told_but_at_told(self):
        self.check((0, 0, 0, 0, 3, 4), HOME, HOME)
        self.check((0, 0, 4, 0, MANY, MANY), HOME, HOME)
        for place, told in ((1, 0), (2, 0), (3, 4)):
            self.check((2, 3, place, 0, 3, 4), (2, (), (3,), 0, 0), (place, (), (0,), 3, told))

    def test_asked_and_told_by_their_rest(self):
        self.check((2, 3, 3, 0, 8, 6), (2, (), (3,), 0, 0), (3, (), (0,), 3, 0))
        self.check((2, 10, 3, 8, 999998, MANY), (2, (), (3,), 0, 0), (3, (), (1,), 3, 3))

    def test_no_room_stands_at_again(self):
        for place in range(4):
            self.none(4, 0, place, 0, 0, 0)
            self.none(9, 0, place, 0, 0, 0)

    def test_a_room_that_is_not_called_is_at_home(self):
        for place in (1, 2, 3):
            for main in (0, 1):
                self.none(main, 0, place, 0, 0, 0)
                self.none(main, 3, place + 4, 0, 3, 0)

    def test_at_an_ask_it_was_asked_that_number(self):
        for number in range(7):
            for asked in range(10):
                for place in range(4):
                    words = (2, number, place, 0, asked, 0)
                    if place == 0:
                        self.check(words, (2, (), (number,), 0, 0), HOME)
                    elif asked % 5 == number % 5:
                        self.check(words, (2, (), (number,), 0, 0), (place, (), (0,), asked % 5, 0))
                    else:
                        self.none(*words)

    def test_at_a_clear_it_is_at_told_or_at_home(self):
        for asked in range(5):
            self.check((3, 1, 3, 2, asked, 5), (3, (), (1,), 0, 0), (3, (), (2,), asked, 5))
            self.check((3, 1, 0, 2, asked, 5), (3, (), (1,), 0, 0), (0, (), (2,), 0, 0))
            for place in (1, 2):
                self.none(3, 1, place, 2, asked, 5)

    def test_sayings_of_a_room_beneath(self):
        room = Room("sub", above="main", boxes=(("x", 7, 0),), sayings=(X_IS_ZERO,), ask=5, told=(6, X), body=(SET,))
        program = Program((self.PROGRAM.rooms()[0], room))
        for main in (0, 1, 2, 3):
            self.assertIsNotNone(stand_of(program, (main, 1, 0, 7, 1, 0)))
            self.assertIsNone(stand_of(program, (main, 1, 0, 8, 1, 0)))
        self.assertEqual(stand_of(program, (2, 1, 1, 8, 1, 0)), ((2, (), (1,), 0, 0), (1, (), (1,), 1, 0)))
        self.assertEqual(stand_of(program, (3, 1, 3, 8, 1, 0)), ((3, (), (1,), 0, 0), (3, (), (1,), 1, 0)))


class DeepCallsTest(unittest.TestCase):
    """main: home, ask sub, clear, again, ask next, clear, again; sub: home, ask low, clear, again, tell, told."""

    PROGRAM = Program((
        Room("main", boxes=(("x", 7, 0),), body=(CALL, ("call", "x", "next", ONE))),
        other((("call", "x", "low", ("plus", ASKED, X)),)), other(name="next"), other(name="low", above="sub")))

    def none(self, main, sub, after, low):
        self.assertIsNone(stand_of(self.PROGRAM, (*main, *sub, *after, *low)))

    def right(self, main, sub, after, low):
        told = stand_of(self.PROGRAM, (*main, *sub, *after, *low))
        self.assertEqual([row[0] for row in told], [main[0], sub[0], after[0], low[0]])
        return told

    def test_called_by_a_called_room(self):
        home = (0, 0, 0, 0)
        self.right((1, 3), (1, 0, 3, 0), home, home)
        # The number that sub asks hangs on the number that it was asked: 3 and 4, by the rest of 5.
        told = self.right((1, 3), (1, 4, 3, 5), home, (1, 6, 2, 5))
        self.assertEqual(told, ((1, (), (3,), 0, 0), (1, (), (4,), 3, 0), (0, (), (0,), 0, 0), (1, (), (6,), 2, 0)))
        for asked in (0, 1, 3, 4):
            self.none((1, 3), (1, 4, 3, 0), home, (1, 0, asked, 0))
        self.none((1, 3), (1, 4, 2, 0), home, (1, 0, 2, 0))
        self.right((1, 3), (2, 4, 3, 0), home, (2, 0, 0, 0))
        self.right((1, 3), (2, 4, 3, 0), home, home)
        self.none((1, 3), (2, 4, 3, 0), home, (1, 0, 2, 0))
        self.none((1, 3), (3, 4, 3, 0), home, home)

    def test_called_by_a_room_that_is_not(self):
        home = (0, 0, 0, 0)
        # The ask of a room that isn't called calls nothing, and it isn't at home.
        self.none((0, 0), (1, 0, 0, 0), home, home)
        self.none((0, 0), (1, 0, 0, 0), home, (1, 0, 0, 0))
        self.none((0, 0), (2, 0, 0, 0), home, home)
        self.none((1, 3), (4, 0, 3, 0), home, (1, 0, 3, 0))
        self.none((1, 3), (4, 0, 3, 0), home, (2, 0, 3, 0))
        self.none((2, 3), (5, 0, 3, 0), home, (2, 0, 3, 0))
        self.none((2, 3), (1, 0, 3, 0), home, home)

    def test_one_is_called_and_another_one_is_not(self):
        home = (0, 0, 0, 0)
        self.right((4, 3), home, (2, 0, 1, 0), home)
        self.none((4, 3), (4, 0, 3, 0), home, home)
        self.none((4, 3), (4, 0, 3, 0), (2, 0, 1, 0), home)
        self.none((4, 3), home, (2, 0, 3, 0), home)
        self.none((1, 3), home, (2, 0, 1, 0), home)
        self.none((4, 3), home, home, (1, 0, 0, 0))


class WordsTest(unittest.TestCase):
    def test_words_that_mean_the_same_mean_the_same_stand(self):
        found = set()
        for source, program in programs(range(80)):
            words = Words(program)
            bounds = words.bounds()
            for k in range(6):
                beaten = list(words.words)
                more = [word + bound * source.randint(0, (MANY - word) // bound) for word, bound in zip(beaten, bounds)]
                self.assertLessEqual(max(more), MANY)
                self.assertEqual(stand_of(program, tuple(more)), stand_of(program, tuple(beaten)))
                found.add(stand_of(program, more) is None)
                for beat in range(source.randint(1, 9)):
                    words.beat(source.choice((None, 3)), source.choice((True, False)))
        self.assertEqual(found, {True, False})

    def test_by_places_and_by_names(self):
        program = pair((SET, CALL), (SAY,))
        words = (0, 1, 0, 2, 3, 4)
        self.assertEqual(stand_of(words=words, program=program), stand_of(program, words))
        self.assertEqual(stand_of(program, words), ((0, (), (1,), 0, 0), (0, (), (2,), 0, 0)))

    def test_nothing_is_changed(self):
        program = pair((SET, CALL), (SAY,))
        words = [9, 99, 0, 999, MANY, 3]
        stand_of(program, words)
        self.assertEqual(words, [9, 99, 0, 999, MANY, 3])
        self.assertEqual(program, pair((SET, CALL), (SAY,)))
