"""Points 10 and 11: readings begun anew from the told stands, behind each beat, go on as the one that goes on."""

import unittest

from anystore.errors import NoStand
from anystore.places import places
from anystore.plain import Plain
from anystore.stands import stand_of
from tests.chance import programs, small_programs
from tests.samples import HOUSE, house, pair
from tests.words import Words


class AnewTest(unittest.TestCase):
    def side_by_side(self, program, beats):
        """The beats are pairs (given, room); told is how many times firsts were taken."""
        steady, anew = Plain(program), Plain(program)
        ahead = steady.refills()
        for now, (given, room) in enumerate(beats, start=1):
            before = anew.refills()
            self.assertEqual(steady.beat(given, room=room), anew.beat(given, room=room))
            self.assertEqual(steady.stand(), anew.stand())
            self.assertEqual(steady.now(), now)
            took = [late - early for early, late in zip(ahead, steady.refills())]
            self.assertEqual(took, [late - early for early, late in zip(before, anew.refills())])
            ahead = steady.refills()
            stand = steady.stand()
            if stand is not None:
                anew = Plain(program, stand=stand)
                self.assertEqual((anew.stand(), anew.now()), (stand, 0))
                self.assertEqual(anew.refills(), (0,) * len(program))
        return sum(steady.refills())

    def test_a_house(self):
        self.assertEqual([len(room) for room in house(30).rooms()], [30] * 8)
        self.assertEqual(self.side_by_side(house(30), [(k, True) for k in range(160)]), 0)
        self.assertEqual(self.side_by_side(house(30), [(None, k % 3 == 0) for k in range(400)]), 0)

    def test_a_house_in_which_firsts_are_taken(self):
        self.assertGreater(self.side_by_side(house(0), [(k, k % 5 > 0) for k in range(400)]), 2)

    def test_drawn_programs(self):
        took = 0
        for drawn in (programs(range(90)), small_programs(range(90))):
            for source, program in drawn:
                beats = [(source.choice((None, 0, 4, 999999)), source.random() < 0.6) for k in range(60)]
                took += self.side_by_side(program, beats)
        self.assertGreater(took, 100)

    def test_many_readings_of_one_program_at_once(self):
        program = house(2)
        steady = Plain(program)
        begun = []
        for k in range(60):
            if steady.stand() is not None:
                begun.append(Plain(program, stand=steady.stand()))
            told = [reading.beat(k) for reading in [steady, *begun]]
            self.assertEqual(told, told[:1] * len(told))
            self.assertEqual({reading.stand() for reading in begun}, {steady.stand()})

    def test_a_program_that_is_read_is_as_it_was(self):
        program = house(1)
        text, told = str(program), places(program, "c")
        reading = Plain(program)
        for k in range(50):
            reading.beat(k)
        told_now = places(program, "c")
        self.assertEqual((program, str(program), told_now), (house(1), text, told))
        told_now.clear()
        self.assertEqual(places(program, "c"), told)
        self.assertEqual([program.beneath(name) for name in "abcd"], [["b", "e", "h"], ["c", "f"], ["d", "g"], []])
        self.assertEqual(len(HOUSE), len(program))

    def test_stands_of_another_program_with_as_many_rooms(self):
        one, two = pair((("set", "x", ("number", 6)),)), pair()
        reading = Plain(one)
        reading.beat()
        self.assertEqual(Plain(one, stand=reading.stand()).stand(), reading.stand())
        with self.assertRaises(NoStand):
            Plain(two, stand=reading.stand())

    def test_words_of_a_house(self):
        program = house(1)
        words, reading = Words(program), Plain(program)
        for k in range(200):
            self.assertEqual(words.beat(k, k % 7 > 0), reading.beat(k, room=k % 7 > 0))
            self.assertEqual(stand_of(program, tuple(words.words)), reading.stand())
            self.assertEqual(tuple(words.refills), reading.refills())
