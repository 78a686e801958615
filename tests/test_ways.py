"""Points 2 and 21 to 24: ways."""

import copy
import random
import unittest

from anystore.errors import NoNumber, NoStore, NoWay, TooLost
from anystore.ways import Way, marks, round_beats, way_beats
from tests.samples import alone

FIRST = (0, 0, None, (), 0, 0, None, ())
# Any things that are no whole numbers.
STRANGE = (None, True, False, "", "1", (), (1,), [], [1], {}, {"a": 1}, alone(()), -1, 10 ** 29)


def begun(store, hold=3, miss=1, bound=10):
    way = Way(hold, miss=miss, bound=bound)
    way.spoil(store)
    return way


def any_store(source, hold, bound):
    def mark():
        return source.randrange(2 * hold + 1)

    def word():
        return source.choice((None, source.randrange(bound)))
    letters = tuple((mark(), word()) for k in range(source.randint(0, hold)))
    echoes = tuple((mark(), source.randrange(2)) for k in range(source.randint(0, hold)))
    return (mark(), source.randrange(2), word(), letters, mark(), source.randrange(2), word(), echoes)


class MadeTest(unittest.TestCase):
    def test_numbers(self):
        self.assertEqual([marks(hold) for hold in range(1, 7)], [3, 5, 7, 9, 11, 13])
        self.assertEqual([round_beats(hold) for hold in range(1, 7)], [3, 5, 7, 9, 11, 13])
        self.assertEqual([way_beats(hold) for hold in range(1, 7)], [5, 9, 13, 17, 21, 25])
        self.assertEqual([round_beats(2, miss=miss) for miss in range(1, 5)], [5, 8, 13, 20])
        self.assertEqual([way_beats(2, miss=miss) for miss in range(1, 5)], [9, 12, 17, 24])
        self.assertEqual(marks(hold=2), 5)
        self.assertEqual((round_beats(hold=3, miss=2), way_beats(miss=2, hold=3)), (10, 16))
        for asked in (round_beats, way_beats):
            with self.assertRaises(TypeError):
                asked(2, 2)

    def test_the_first_store(self):
        for hold in range(1, 7):
            way = Way(hold)
            self.assertEqual(way.store(), FIRST)
            self.assertEqual((len(way), way.is_plain(), way.under_way()), (0, True, []))
        self.assertEqual(type(Way(1).store()), tuple)

    def test_bounds(self):
        for hold, miss, bound in ((1, 1, 1), (6, 4, 40), (3, 2, 10)):
            self.assertEqual(repr(Way(hold, miss=miss, bound=bound)), f"Way({hold}, {miss}, {bound})")
        self.assertEqual(repr(Way(2)), "Way(2, 1, 10)")
        self.assertEqual(repr(Way(hold=2, bound=3)), "Way(2, 1, 3)")
        with self.assertRaises(TypeError):
            Way(2, 1)

    def refused(self, why, hold, **more):
        with self.assertRaises(NoWay) as caught:
            Way(hold, **more)
        self.assertEqual(caught.exception.why, why)

    def test_no_way(self):
        for thing in (0, 7, *STRANGE):
            self.refused("hold", thing)
            self.refused("hold", thing, miss=0, bound=None)
        for thing in (0, 5, *STRANGE):
            self.refused("miss", 2, miss=thing)
            self.refused("miss", 2, bound=0, miss=thing)
        for thing in (0, 41, *STRANGE):
            self.refused("bound", 2, bound=thing)
            self.refused("bound", 6, miss=4, bound=thing)

    def test_len(self):
        self.assertEqual(len(begun((0, 0, None, ((1, 2), (0, None)), 0, 0, None, ((0, 1),)))), 3)
        self.assertEqual(len(begun((0, 0, None, ((1, 2),), 0, 0, None, ()))), 1)
        self.assertEqual(len(begun((0, 0, None, (), 0, 0, None, ((0, 1),) * 3))), 3)

    def test_equal(self):
        self.assertEqual(Way(2), Way(2, miss=1, bound=10))
        for other in (Way(3), Way(2, miss=2), Way(2, bound=9), None, 2, FIRST, "Way(2, 1, 10)", [], {}, alone(())):
            self.assertFalse(Way(2) == other)
            self.assertTrue(Way(2) != other)
        one, two = Way(2, miss=3), Way(2, miss=3)
        one.beat()
        self.assertNotEqual(one, two)
        two.beat()
        self.assertEqual(one, two)
        store = (0, 0, None, (), 0, 0, 3, ())
        one.spoil(store)
        self.assertNotEqual(one, two)
        two.spoil(store)
        self.assertEqual(one, two)

    def test_equal_by_how_many_were_lost_last(self):
        one, two = Way(2, miss=3), Way(2, miss=3)
        one.beat(lost=(True, False))
        self.assertEqual(one.store(), two.store())
        self.assertNotEqual(one, two)
        two.beat(lost=(True, True))
        # No echo was sent, so none was lost.
        self.assertEqual(one, two)
        one.beat()
        two.beat()
        self.assertEqual(one, two)
        one.beat(lost=(False, True))
        two.beat(lost=(False, False))
        two.spoil(one.store())
        self.assertNotEqual(one, two)
        one.spoil(one.store())
        self.assertEqual(one, two)

    def test_two_ways_share_nothing(self):
        one, two = Way(2), Way(2)
        one.beat(word=3)
        self.assertEqual(two.store(), FIRST)


class BeatTest(unittest.TestCase):
    """Each clause of a beat by itself; what is not named stays."""

    def check(self, ahead, behind, *, told=(None, None), hold=3, miss=4, bound=10, **more):
        way = begun(ahead, hold, miss, bound)
        self.assertEqual(way.beat(**more), told)
        self.assertEqual(way.store(), behind)
        return way

    def test_a_letter_is_sent_at_each_beat(self):
        self.check(FIRST, (0, 0, None, ((0, None),), 0, 0, None, ()))
        self.check((5, 1, 7, (), 5, 0, None, ()), (5, 1, 7, ((5, 7),), 5, 0, None, ()))
        # Where bears is 0 the slot is not sent; where it is 1 and there is no word, None is.
        self.check((5, 0, 7, (), 5, 0, None, ()), (5, 0, 7, ((5, None),), 5, 0, None, ()))
        self.check((5, 1, None, (), 5, 0, None, ()), (5, 1, None, ((5, None),), 5, 0, None, ()))

    def test_sent_stands_last_and_the_first_is_handed_on(self):
        self.check(
            (5, 1, 7, ((4, 1), (3, 2), (4, 3)), 4, 1, None, ((2, 0), (1, 1), (0, 0))),
            (5, 1, 7, ((3, 2), (4, 3), (5, 7)), 4, 1, None, ((1, 1), (0, 0), (4, 1))))

    def test_a_letter_of_an_unlike_mark(self):
        # With a word and an empty box, with a full one, without a word.
        self.check((0, 0, None, ((2, 8),), 1, 0, None, ()), (0, 0, None, ((0, None),), 2, 1, 8, ((2, 1),)))
        self.check((0, 0, None, ((2, 0),), 1, 0, None, ()), (0, 0, None, ((0, None),), 2, 1, 0, ((2, 1),)))
        self.check((0, 0, None, ((2, 8),), 1, 1, 5, ()), (0, 0, None, ((0, None),), 2, 0, 5, ((2, 0),)))
        for took in (0, 1):
            self.check((0, 0, None, ((2, None),), 1, took, None, ()), (0, 0, None, ((0, None),), 2, 0, None, ((2, 0),)))
            self.check((0, 0, None, ((2, None),), 1, took, 5, ()), (0, 0, None, ((0, None),), 2, 0, 5, ((2, 0),)))

    def test_a_letter_of_the_same_mark(self):
        for took in (0, 1):
            for word in (None, 8):
                for box in (None, 5):
                    self.check(
                        (0, 0, None, ((1, word),), 1, took, box, ()),
                        (0, 0, None, ((0, None),), 1, took, box, ((1, took),)))

    def test_no_letter_no_echo(self):
        self.check((0, 0, None, (), 1, 1, 5, ()), (0, 0, None, ((0, None),), 1, 1, 5, ()))

    def test_an_echo_of_the_mark(self):
        for slot, then in ((None, 0), (7, 1)):
            for bears in (0, 1):
                for took in (0, 1):
                    letter = (2, slot if bears else None)
                    behind = (3, 0, None) if bears and took else (3, then, slot)
                    self.check(
                        (2, bears, slot, (), 0, 0, None, ((2, took),)), (*behind, (letter,), 0, 0, None, ()))

    def test_an_echo_of_another_mark(self):
        for mark in (0, 1, 3, 6):
            for slot in (None, 7):
                for bears in (0, 1):
                    letter = (2, slot if bears else None)
                    self.check(
                        (2, bears, slot, (), 0, 0, None, ((mark, 1),)), (2, bears, slot, (letter,), 0, 0, None, ()))

    def test_behind_the_greatest_mark(self):
        for hold in range(1, 7):
            most = 2 * hold
            self.check(
                (most, 0, 7, (), 0, 0, None, ((most, 0),)), (0, 1, 7, ((most, None),), 0, 0, None, ()), hold=hold)
            self.check(
                (most - 1, 0, 7, (), 0, 0, None, ((most - 1, 0),)), (most, 1, 7, ((most - 1, None),), 0, 0, None, ()),
                hold=hold)

    def test_all_by_the_store_as_it_stood(self):
        # Both sides at once; the letter has the old mark and slot, the echo the new last and took.
        self.check(
            (2, 1, 7, ((3, 4),), 1, 0, None, ((2, 1),)), (3, 0, None, ((2, 7),), 3, 1, 4, ((3, 1),)))
        # The echo handed on is the first that stood there, not the one that is sent now.
        self.check(
            (2, 1, 7, ((2, 7),), 1, 0, None, ()), (2, 1, 7, ((2, 7),), 2, 1, 7, ((2, 1),)))

    def test_put(self):
        self.check(FIRST, (0, 0, 4, ((0, None),), 0, 0, None, ()), told=(True, None), word=4)
        self.check(FIRST, (0, 0, 0, ((0, None),), 0, 0, None, ()), told=(True, None), word=0)
        self.check((0, 0, 7, (), 0, 0, None, ()), (0, 0, 7, ((0, None),), 0, 0, None, ()), told=(False, None), word=4)
        self.check((0, 0, 7, (), 0, 0, None, ()), (0, 0, 7, ((0, None),), 0, 0, None, ()), told=(None, None), word=None)

    def test_put_while_an_echo_is_handed_on(self):
        # The slot becomes free at this beat; it was none ahead of it.
        self.check(
            (2, 1, 7, (), 0, 0, None, ((2, 1),)), (3, 0, None, ((2, 7),), 0, 0, None, ()), told=(False, None), word=4)
        # The slot was None: the word becomes it, and bears is by the slot as it was.
        for bears in (0, 1):
            for took in (0, 1):
                self.check(
                    (2, bears, None, (), 0, 0, None, ((2, took),)), (3, 0, 4, ((2, None),), 0, 0, None, ()),
                    told=(True, None), word=4)
        self.check((2, 1, None, (), 0, 0, None, ()), (2, 1, 4, ((2, None),), 0, 0, None, ()), told=(True, None), word=4)

    def test_taken(self):
        self.check((0, 0, None, (), 0, 0, 5, ()), (0, 0, None, ((0, None),), 0, 0, None, ()), told=(None, 5), taking=True)
        self.check((0, 0, None, (), 0, 0, 0, ()), (0, 0, None, ((0, None),), 0, 0, None, ()), told=(None, 0), taking=True)
        self.check((0, 0, None, (), 0, 0, 5, ()), (0, 0, None, ((0, None),), 0, 0, 5, ()), taking=False)
        self.check(FIRST, (0, 0, None, ((0, None),), 0, 0, None, ()), taking=True)

    def test_taken_while_a_letter_is_handed_on(self):
        # The box was full: the letter's word is not taken in, though the box becomes free at this beat.
        self.check(
            (0, 0, None, ((2, 8),), 1, 1, 5, ()), (0, 0, None, ((0, None),), 2, 0, None, ((2, 0),)),
            told=(None, 5), taking=True)
        # The box was empty: nothing is taken, and the word stays.
        self.check(
            (0, 0, None, ((2, 8),), 1, 0, None, ()), (0, 0, None, ((0, None),), 2, 1, 8, ((2, 1),)), taking=True)

    def test_lost(self):
        ahead = (2, 1, 7, ((3, 4), (3, 4)), 1, 0, None, ((6, 1), (5, 0)))
        letters, echoes = ((3, 4),), ((5, 0),)
        for lost in ((False, False), (True, False), (False, True), (True, True)):
            self.check(
                ahead, (
                    2, 1, 7, letters if lost[0] else letters + ((2, 7),), 3, 1, 4,
                    echoes if lost[1] else echoes + ((3, 1),)), lost=lost)

    def test_no_echo_to_lose(self):
        self.check(FIRST, (0, 0, None, ((0, None),), 0, 0, None, ()), lost=(False, True))
        self.check(FIRST, FIRST, lost=(True, True))

    def test_put_and_taken_at_once(self):
        self.check(
            (2, 0, None, (), 0, 0, 9, ()), (2, 0, 4, ((2, None),), 0, 0, None, ()), told=(True, 9), word=4, taking=True)

    def test_behind_the_star_by_name_alone(self):
        for arguments in ((None,), (3,), (None, True)):
            with self.assertRaises(TypeError):
                Way(2).beat(*arguments)
        self.assertEqual(Way(2).beat(lost=(False, False), taking=True, word=1), (True, None))


class RefusedTest(unittest.TestCase):
    def lost(self, way, lost, side):
        ahead = copy.deepcopy(way)
        with self.assertRaises(TooLost) as caught:
            way.beat(word=1, taking=True, lost=lost)
        self.assertEqual(caught.exception.side, side)
        self.assertEqual((way, way.store()), (ahead, ahead.store()))

    def test_letters(self):
        for miss in range(1, 5):
            way = Way(2, miss=miss)
            for turn in range(3):
                for k in range(miss - 1):
                    way.beat(lost=(True, False))
                self.lost(way, (True, False), "letters")
                self.lost(way, (True, True), "letters")
                way.beat()

    def test_echoes(self):
        for miss in range(1, 5):
            way = Way(2, miss=miss)
            way.beat()
            for turn in range(3):
                for k in range(miss - 1):
                    way.beat(lost=(False, True))
                self.lost(way, (False, True), "echoes")
                way.beat()

    def test_both_the_first_side(self):
        for miss in range(1, 5):
            way = Way(6, miss=miss)
            way.spoil((0, 0, None, ((0, None),) * 6, 0, 0, None, ()))
            for k in range(miss - 1):
                way.beat(lost=(True, True))
            self.lost(way, (True, True), "letters")
            self.lost(way, (False, True), "echoes")
            self.lost(way, (True, False), "letters")

    def test_a_beat_without_an_echo_leaves_the_count_of_echoes(self):
        way = Way(2, miss=2)
        way.beat()
        way.beat(lost=(True, True))
        self.assertEqual(way.store()[3], ())
        # No letter, no echo: neither lost nor sent.
        way.beat(lost=(False, True))
        self.lost(way, (False, True), "echoes")
        way.beat(lost=(False, False))
        way.beat(lost=(False, True))

    def test_a_refused_beat_does_not_count(self):
        way = Way(2, miss=3)
        way.beat(lost=(True, False))
        way.beat(lost=(True, False))
        for k in range(3):
            self.lost(way, (True, False), "letters")
        way.beat()
        way.beat(lost=(True, False))
        way.beat(lost=(True, False))
        self.lost(way, (True, False), "letters")

    def test_a_store_spoilt_anew_forgets_what_was_lost(self):
        way = Way(2, miss=2)
        way.beat()
        for turn in range(4):
            way.beat(lost=(True, True))
            self.lost(way, (True, False), "letters")
            way.spoil((0, 0, None, ((0, None),), 0, 0, None, ()))

    def test_no_number(self):
        for bound in (1, 10, 40):
            way = Way(2, bound=bound)
            ahead = way.store()
            for thing in (bound, bound + 1, *STRANGE[1:]):
                for lost in ((False, False), (True, True)):
                    with self.assertRaises(NoNumber) as caught:
                        way.beat(word=thing, lost=lost)
                    self.assertIs(caught.exception.word, thing)
            self.assertEqual(way.store(), ahead)
            self.assertEqual(way, Way(2, bound=bound))
            self.assertEqual(way.beat(word=bound - 1), (True, None))

    def test_no_store(self):
        right = (1, 1, 3, ((2, None), (0, 9)), 4, 1, 0, ((1, 1),))
        way = Way(2, miss=2)
        way.spoil(right)
        self.assertEqual(way.store(), right)
        way.beat(lost=(True, False))
        ahead = way.store()
        wrong = [*STRANGE, right[:7], right + (0,), list(right), right[::-1], (right,), way]
        others = {
            0: (5, -1, None, True, "1"), 1: (2, -1, None, True, False), 2: (10, -1, True, "3", (3,)),
            3: (
                None, [], ((2, None),) * 3, ((5, 1),), ((-1, 1),), ((True, 1),), ((1, 10),), ((1, True),), ((1,),),
                ((1, 1, 1),), (None,), ([1, 1],), [(1, 1)], ((1, "1"),), {}),
            4: (5, -1, None, False), 5: (2, None, True, "0"), 6: (10, -1, False, [], ()),
            7: (
                None, [], ((2, 0),) * 3, ((5, 1),), ((1, 2),), ((1, None),), ((1, True),), ((False, 1),), ((1,),),
                ([1, 1],), ((1, 1, 1),), "ab", {}),
        }
        for at, things in others.items():
            wrong.extend(right[:at] + (thing,) + right[at + 1:] for thing in things)
        for thing in wrong:
            with self.subTest(thing=thing):
                with self.assertRaises(NoStore):
                    way.spoil(thing)
                self.assertEqual(way.store(), ahead)
        # What was lost is not forgotten by what is refused.
        with self.assertRaises(TooLost):
            way.beat(lost=(True, False))

    def test_stores(self):
        source = random.Random(7)
        for turn in range(300):
            hold, bound = source.randint(1, 6), source.choice((1, 3, 40))
            way = Way(hold, bound=bound)
            store = any_store(source, hold, bound)
            self.assertIsNone(way.spoil(store=store))
            self.assertEqual(way.store(), store)


class PlainTest(unittest.TestCase):
    """A plain store for each hold, and each clause broken by itself; the mark is 0, the one ahead the greatest."""

    def plain(self, hold, store, under_way):
        way = begun(store, hold)
        self.assertIs(way.is_plain(), True)
        self.assertEqual(way.under_way(), under_way)
        self.assertIsInstance(way.under_way(), list)

    def broken(self, hold, store):
        way = begun(store, hold)
        self.assertIs(way.is_plain(), False)
        self.assertIsNone(way.under_way())

    def test_bears_and_slot(self):
        for hold in range(1, 7):
            self.plain(hold, (0, 1, 7, (), 0, 0, None, ()), [7])
            self.plain(hold, (0, 0, 7, (), 0, 0, None, ()), [7])
            self.plain(hold, (0, 0, None, (), 0, 0, None, ()), [])
            self.broken(hold, (0, 1, None, (), 0, 0, None, ()))

    def test_last(self):
        for hold in range(1, 7):
            many = 2 * hold + 1
            for mark in range(many):
                for last in range(many):
                    fits = last in (mark, (mark - 1) % many)
                    store = (mark, 0, None, (), last, 0, None, ())
                    (self.plain(hold, store, []) if fits else self.broken(hold, store))

    def test_letters(self):
        for hold in range(1, 7):
            ahead = 2 * hold
            # Of the mark: with the slot where bears is 1, else with None.
            self.plain(hold, (0, 1, 7, ((0, 7),), ahead, 0, None, ()), [7])
            self.broken(hold, (0, 1, 7, ((0, None),), ahead, 0, None, ()))
            self.broken(hold, (0, 1, 7, ((0, 6),), ahead, 0, None, ()))
            self.plain(hold, (0, 0, 7, ((0, None),), ahead, 0, None, ()), [7])
            self.broken(hold, (0, 0, 7, ((0, 7),), ahead, 0, None, ()))
            # Of the mark ahead: with anything.
            for word in (None, 0, 7):
                self.plain(hold, (0, 1, 7, ((ahead, word),), ahead, 0, None, ()), [7])
            # Of another mark.
            self.broken(hold, (0, 1, 7, ((1, 7),), ahead, 0, None, ()))
            # Where last is the mark no letter has the one ahead.
            self.plain(hold, (0, 1, 7, ((0, 7),), 0, 0, None, ()), [7])
            self.broken(hold, (0, 1, 7, ((ahead, 7),), 0, 0, None, ()))

    def test_echoes(self):
        for hold in range(1, 7):
            ahead = 2 * hold
            for took in (0, 1):
                self.plain(hold, (0, 0, None, (), 0, took, None, ((0, took),)), [])
                self.broken(hold, (0, 0, None, (), 0, took, None, ((0, 1 - took),)))
                for told in (0, 1):
                    self.plain(hold, (0, 0, None, (), 0, took, None, ((ahead, told),)), [])
                    self.plain(hold, (0, 0, None, (), ahead, took, None, ((ahead, told),)), [])
                self.broken(hold, (0, 0, None, (), 0, took, None, ((1, took),)))
                # Where last isn't the mark no echo has the mark.
                self.broken(hold, (0, 0, None, (), ahead, took, None, ((0, took),)))

    def test_those_of_the_mark_ahead_stand_first(self):
        for hold in range(2, 7):
            ahead = 2 * hold
            self.plain(hold, (0, 1, 7, ((ahead, 3), (0, 7)), ahead, 0, None, ()), [7])
            self.broken(hold, (0, 1, 7, ((0, 7), (ahead, 3)), ahead, 0, None, ()))
            self.plain(hold, (0, 0, None, (), 0, 1, None, ((ahead, 0), (0, 1))), [])
            self.broken(hold, (0, 0, None, (), 0, 1, None, ((0, 1), (ahead, 0))))
        for row, fits in (
                ((4, 4, 0, 0), True), ((4, 0, 4, 0), False), ((4, 0, 0, 4), False), ((0, 0, 0, 0), True),
                ((4, 4, 4, 4), True)):
            letters = tuple((8 if one == 4 else 0, None) for one in row)
            self.assertIs(begun((0, 0, None, letters, 8, 0, None, ()), 4).is_plain(), fits)

    def test_under_way(self):
        for box in (None, 5):
            for bears in (0, 1):
                for took in (0, 1):
                    for last in (2, 1):
                        out = bears == 1 and took == 1 and last == 2
                        wanted = ([] if box is None else [box]) + ([] if out else [7])
                        self.plain(2, (2, bears, 7, (), last, took, box, ()), wanted)
                        if bears == 0:
                            self.plain(2, (2, 0, None, (), last, took, box, ()), [] if box is None else [box])

    def test_noughts_are_words(self):
        self.plain(2, (2, 0, 0, (), 2, 0, 0, ()), [0, 0])

    def test_told_anew(self):
        way = begun((2, 0, 3, (), 2, 0, 4, ()))
        way.under_way().clear()
        self.assertEqual(way.under_way(), [4, 3])


class PromiseTest(unittest.TestCase):
    """Point 24."""

    def test_plain_behind_its_beats_for_ever(self):
        source = random.Random(24)
        for turn in range(1500):
            hold, miss = source.randint(1, 6), source.randint(1, 4)
            way = Walker(source, hold, miss, 3)
            way.way.spoil(any_store(source, hold, 3))
            for beat in range(way_beats(hold, miss=miss)):
                way.walk()
            for beat in range(20):
                self.assertTrue(way.way.is_plain())
                way.walk()

    def test_each_word_once_and_in_order(self):
        source = random.Random(25)
        taken_in_all = 0
        for turn in range(400):
            hold, miss = source.randint(1, 5), source.randint(1, 4)
            way = Walker(source, hold, miss, 40)
            way.way.spoil(any_store(source, hold, 40))
            for beat in range(way_beats(hold, miss=miss)):
                way.walk()
            wanted = way.way.under_way()
            taken = []
            for beat in range(120):
                word = source.choice((None, source.randrange(40)))
                put, got = way.walk(word)
                self.assertEqual(put is None, word is None)
                if put:
                    wanted.append(word)
                if got is not None:
                    taken.append(got)
                self.assertEqual(taken, wanted[:len(taken)])
                self.assertEqual(way.way.under_way(), wanted[len(taken):])
            taken_in_all += len(taken)
        self.assertGreater(taken_in_all, 3000)

    def test_a_word_in_time(self):
        source = random.Random(26)
        for turn in range(400):
            hold, miss = source.randint(1, 6), source.randint(1, 4)
            way = Walker(source, hold, miss, 40)
            way.way.spoil(any_store(source, hold, 40))
            for beat in range(way_beats(hold, miss=miss)):
                way.walk()
            # All that is under way is taken first, so that the box is empty.
            while way.way.under_way() or way.way.store()[2] is not None:
                way.walk(None, True)
            self.assertEqual(way.walk(17, False)[0], True)
            beats = 0
            while way.way.store()[6] != 17:
                way.walk(None, False)
                beats += 1
            self.assertLessEqual(beats, round_beats(hold, miss=miss) + hold + miss)
            while way.way.store()[2] is not None:
                way.walk(None, False)
                beats += 1
            self.assertLessEqual(beats, 2 * round_beats(hold, miss=miss) + hold + miss)


class Walker:
    """A way, and what it loses: as much as its chance wants, as long as it is not refused."""

    def __init__(self, source, hold, miss, bound):
        self.source = source
        self.way = Way(hold, miss=miss, bound=bound)
        self.heavy = source.choice((0.1, 0.5, 0.9, 1))

    def walk(self, word=None, taking=None):
        if taking is None:
            taking = self.source.random() < 0.5
        lost = [self.source.random() < self.heavy, self.source.random() < self.heavy]
        while True:
            try:
                return self.way.beat(word=word, taking=taking, lost=tuple(lost))
            except TooLost as refused:
                lost[("letters", "echoes").index(refused.side)] = False
