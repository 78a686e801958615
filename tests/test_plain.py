"""Points 2, 10 and 11: the plain reading, beat by beat."""

import unittest

from anystore.plain import Plain
from anystore.programs import Program, Room
from anystore.stands import stand_of
from tests.chance import programs
from tests.samples import ASKED, CALL, HEAR, ONE, SAY, SET, TWO, X, X_IS_ZERO, ZERO, alone, first, other, pair
from tests.words import Words

MANY = 999999


def number(n):
    return ("number", n)


class PlainCase(unittest.TestCase):
    def beats(self, plain, *stands, given=None, room=True):
        """At each beat nothing is said, and the next of these stands is come to."""
        for stand in stands:
            now = plain.now()
            self.assertEqual(plain.beat(given, room=room), ())
            self.assertEqual(plain.stand(), stand)
            self.assertEqual(plain.now(), now + 1)


class BeginTest(PlainCase):
    def test_at_first(self):
        low = Room("low", above="sub", boxes=(("a", 1, 0), ("b", 40, 39)), ask=3, told=(2, ZERO), body=(
            ("for", ZERO, 1, ()), ("for", ZERO, 9, ())))
        plain = Plain(Program((first((CALL,), boxes=(("x", 7, 5),)), other(), low)))
        self.assertEqual(plain.stand(), ((0, (), (5,), 0, 0), (0, (), (0,), 0, 0), (0, (0, 0), (0, 39), 0, 0)))
        self.assertEqual(plain.now(), 0)
        self.assertEqual(plain.refills(), (0, 0, 0))

    def test_kinds(self):
        plain = Plain(alone((SAY,)))
        for k in range(3):
            self.assertIs(type(plain.now()), int)
            self.assertIs(type(plain.refills()), tuple)
            self.assertIs(type(plain.stand()), tuple)
            said = plain.beat()
            self.assertIs(type(said), tuple)
            self.assertEqual([type(one) for one in said], [tuple] * len(said))

    def test_an_empty_body_begins_and_ends_at_once(self):
        plain = Plain(Program((Room("a"),)))
        self.beats(plain, *[((0, (), (), 0, 0),)] * 5)
        self.assertEqual(plain.now(), 5)

    def test_a_room_that_is_never_called_stays_at_home(self):
        home = (0, (), (0,), 0, 0)
        self.beats(Plain(pair((SET,))), ((1, (), (0,), 0, 0), home), ((0, (), (1,), 0, 0), home))


class StepsTest(PlainCase):
    """The body of one room with the box x, of these bounds."""

    def check(self, body, *rows, boxes=(("x", 7, 0),), given=None, room=True, sayings=()):
        plain = Plain(alone(body, boxes=boxes, sayings=sayings))
        # Ahead of the body there is the beat in which it begins.
        self.beats(plain, ((1, *plain.stand()[0][1:]),))
        self.beats(plain, *[(row,) for row in rows], given=given, room=room)
        return plain

    def test_set(self):
        self.check((SET,), (0, (), (1,), 0, 0), (1, (), (1,), 0, 0), (0, (), (1,), 0, 0))
        for worth, bound, become in ((6, 7, 6), (7, 7, 0), (8, 7, 1), (999, 40, 39), (999, 1, 0), (1, 1, 0)):
            self.check((("set", "x", number(worth)),), (0, (), (become,), 0, 0), boxes=(("x", bound, 0),))
        more = ("set", "x", ("plus", X, number(4)))
        self.check((more, more), (2, (), (4,), 0, 0), (0, (), (1,), 0, 0), (1, (), (1,), 0, 0), (2, (), (5,), 0, 0))

    def test_set_leaves_the_other_boxes(self):
        self.check(
            (("set", "b", ("plus", ("box", "a"), ("box", "c"))),), (0, (), (3, 1, 5), 0, 0),
            boxes=(("a", 4, 3), ("b", 7, 0), ("c", 9, 5)))

    def test_hear(self):
        for given, bound, become in (
                (None, 7, 0), (0, 7, 1), (1, 7, 2), (5, 7, 6), (6, 7, 1), (MANY, 7, 1 + MANY % 6),
                (MANY, 40, 1 + MANY % 39), (None, 1, 0), (0, 1, 0), (1, 1, 0), (MANY, 1, 0), (None, 2, 0), (0, 2, 1), (1, 2, 1), (MANY, 2, 1)):
            self.check((HEAR,), (0, (), (become,), 0, 0), boxes=(("x", bound, bound - 1),), given=given)
            self.check((HEAR,), (0, (), (become,), 0, 0), boxes=(("x", bound, 0),), given=given, room=False)

    def test_hear_hears_what_is_given_at_its_own_beat(self):
        plain = Plain(alone((HEAR, HEAR)))
        for given, stand in (
                (5, (1, (), (0,), 0, 0)), (3, (2, (), (4,), 0, 0)), (None, (0, (), (0,), 0, 0)),
                (3, (1, (), (0,), 0, 0)), (0, (2, (), (1,), 0, 0)), (MANY, (0, (), (4,), 0, 0))):
            self.beats(plain, (stand,), given=given)

    def said(self, step, boxes, room):
        plain = Plain(alone((step,), boxes=boxes))
        self.assertEqual(plain.beat(room=room), ())
        said = plain.beat(3, room=room)
        place, counts, told, asked, told_of = plain.stand()[0]
        self.assertEqual((place, counts, asked, told_of), (0, (), 0, 0))
        return (said, told)

    def test_say(self):
        for bound, become in ((7, 1), (2, 1), (1, 0)):
            boxes = (("x", bound, bound - 1),)
            self.assertEqual(self.said(SAY, boxes, True), ((("main", 2),), (become,)))
            self.assertEqual(self.said(SAY, boxes, False), ((), (0,)))

    def test_say_says_the_worth_itself(self):
        boxes = (("x", 7, 6), ("y", 40, 39))
        self.assertEqual(self.said(("say", "x", X), boxes, True), ((("main", 6),), (1, 39)))
        self.assertEqual(self.said(("say", "y", number(999)), boxes, True), ((("main", 999),), (6, 1)))
        times = ("times", number(999), ("times", number(999), ("box", "y")))
        self.assertEqual(self.said(("say", "x", times), boxes, True), ((("main", 999 * 999 * 39),), (1, 39)))
        self.assertEqual(self.said(("say", "x", ZERO), boxes, True), ((("main", 0),), (1, 39)))
        self.assertEqual(self.said(("say", "x", times), boxes, False), ((), (0, 39)))

    def test_room_at_its_own_beat(self):
        plain = Plain(alone((SAY, SAY)))
        told = [plain.beat(room=room) for room in (False, True, False, False, False, True)]
        self.assertEqual(told, [(), (("main", 2),), (), (), (), (("main", 2),)])
        self.assertEqual(plain.stand(), ((0, (), (1,), 0, 0),))

    def test_if(self):
        body = (("if", X_IS_ZERO, (("set", "x", number(5)),), (("set", "x", ZERO), HEAR)), SAY)
        # home, if, set 5, set 0, hear, say
        self.check(body, (2, (), (0,), 0, 0), (5, (), (5,), 0, 0))
        self.check(body, (3, (), (3,), 0, 0), (4, (), (0,), 0, 0), (5, (), (0,), 0, 0), boxes=(("x", 7, 3),))

    def test_ifs_with_empty_bodies(self):
        self.check((("if", X_IS_ZERO, (), ()),), (0, (), (0,), 0, 0))
        self.check((("if", X_IS_ZERO, (), (SET,)), HEAR), (3, (), (0,), 0, 0))
        self.check((("if", X_IS_ZERO, (SET,), ()), HEAR), (3, (), (3,), 0, 0), boxes=(("x", 7, 3),))
        self.check((("if", X_IS_ZERO, (SET,), ()), HEAR), (2, (), (0,), 0, 0), (3, (), (1,), 0, 0))

    def test_for_with_an_empty_body(self):
        for worth, most, count in (
                (0, 3, 0), (1, 3, 1), (3, 3, 3), (4, 3, 0), (5, 3, 1), (999, 9, 9), (2, 1, 0), (1, 1, 1)):
            rows = [(2, (left,), (0,), 0, 0) for left in range(count, -1, -1)]
            self.check((("for", number(worth), most, ()),), *rows, (0, (0,), (0,), 0, 0))

    def test_for(self):
        more = ("set", "x", ("plus", X, ONE))
        body = (("for", ("plus", X, TWO), 4, (more, more)), SAY)
        # home, for, check, set, set, say
        self.check(
            body, (2, (2,), (0,), 0, 0),
            (3, (1,), (0,), 0, 0), (4, (1,), (1,), 0, 0), (2, (1,), (2,), 0, 0),
            (3, (0,), (2,), 0, 0), (4, (0,), (3,), 0, 0), (2, (0,), (4,), 0, 0), (5, (0,), (4,), 0, 0))

    def test_for_with_no_turns_and_with_the_most(self):
        for worth in (0, 4, 8):
            self.check((("for", number(worth), 3, (SET,)), HEAR), (2, (0,), (0,), 0, 0), (4, (0,), (0,), 0, 0))
        self.check(
            (("for", number(3), 3, (SET,)), HEAR), (2, (3,), (0,), 0, 0), (3, (2,), (0,), 0, 0), (2, (2,), (1,), 0, 0),
            (3, (1,), (1,), 0, 0), (2, (1,), (1,), 0, 0), (3, (0,), (1,), 0, 0), (2, (0,), (1,), 0, 0),
            (4, (0,), (1,), 0, 0))

    def test_how_often_a_for_goes_hangs_on_its_begin_alone(self):
        body = (("for", X, 2, (("set", "x", ZERO),)),)
        self.check(
            body, (2, (2,), (2,), 0, 0), (3, (1,), (2,), 0, 0), (2, (1,), (0,), 0, 0), (3, (0,), (0,), 0, 0),
            (2, (0,), (0,), 0, 0), (0, (0,), (0,), 0, 0), boxes=(("x", 7, 2),))

    def test_fors_within_fors(self):
        body = (("for", number(2), 2, (("for", ONE, 3, (SET,)),)),)
        # home, for 0, check 0, for 1, check 1, set
        self.check(
            body, (2, (2, 0), (0,), 0, 0),
            (3, (1, 0), (0,), 0, 0), (4, (1, 1), (0,), 0, 0), (5, (1, 0), (0,), 0, 0), (4, (1, 0), (1,), 0, 0),
            (2, (1, 0), (1,), 0, 0),
            (3, (0, 0), (1,), 0, 0), (4, (0, 1), (1,), 0, 0), (5, (0, 0), (1,), 0, 0), (4, (0, 0), (1,), 0, 0),
            (2, (0, 0), (1,), 0, 0), (0, (0, 0), (1,), 0, 0))

    def test_fors_one_behind_another(self):
        self.check(
            (("for", ONE, 1, ()), ("for", TWO, 2, ())), (2, (1, 0), (0,), 0, 0), (2, (0, 0), (0,), 0, 0),
            (3, (0, 0), (0,), 0, 0), (4, (0, 2), (0,), 0, 0), (4, (0, 1), (0,), 0, 0), (4, (0, 0), (0,), 0, 0),
            (0, (0, 0), (0,), 0, 0))


class CallTest(PlainCase):
    def begun(self, sub, *, ask=5, told=(6, X), asking=X, main_boxes=(("x", 7, 4),)):
        """A reading of which the first room has come to its call."""
        room = Room("sub", above="main", boxes=(("x", 7, 0),), ask=ask, told=told, body=sub)
        program = Program((first((("call", "x", "sub", asking), SET), boxes=main_boxes), room))
        plain = Plain(program)
        self.beats(plain, ((1, *plain.stand()[0][1:]), plain.stand()[1]))
        return plain

    def test_an_empty_body(self):
        # main: home, ask, clear, again, set; sub: home, tell, told
        home = (0, (), (0,), 0, 0)
        plain = self.begun((), told=(6, ("plus", ASKED, ONE)))
        self.beats(
            plain, ((1, (), (4,), 0, 0), (1, (), (0,), 4, 0)), ((1, (), (4,), 0, 0), (2, (), (0,), 4, 5)),
            ((2, (), (5,), 0, 0), (2, (), (0,), 4, 5)), ((2, (), (5,), 0, 0), home), ((4, (), (5,), 0, 0), home),
            ((0, (), (1,), 0, 0), home), ((1, (), (1,), 0, 0), home))
        self.assertEqual(plain.refills(), (0, 0))

    def test_the_beats_of_the_other_rooms_body(self):
        # sub: home, set, set, tell, told
        plain = self.begun((("set", "x", ASKED), ("set", "x", ("plus", X, TWO))), told=(40, ("times", X, X)))
        main = (1, (), (4,), 0, 0)
        self.beats(
            plain, (main, (1, (), (0,), 4, 0)), (main, (2, (), (4,), 4, 0)), (main, (3, (), (6,), 4, 0)),
            (main, (4, (), (6,), 4, 36)), ((2, (), (1,), 0, 0), (4, (), (6,), 4, 36)),
            ((2, (), (1,), 0, 0), (0, (), (6,), 0, 0)), ((4, (), (1,), 0, 0), (0, (), (6,), 0, 0)))

    def test_asked_told_and_taken_by_their_rests(self):
        for asking, ask, asked in ((4, 5, 4), (5, 5, 0), (999, 40, 39), (7, 1, 0)):
            plain = self.begun((), ask=ask, asking=number(asking), told=(40, ASKED))
            plain.beat()
            self.assertEqual(plain.stand()[1], (1, (), (0,), asked, 0))
            plain.beat()
            self.assertEqual(plain.stand()[1], (2, (), (0,), asked, asked))
            plain.beat()
            self.assertEqual(plain.stand()[0], (2, (), (asked % 7,), 0, 0))
        for worth, bound, told in ((5, 6, 5), (6, 6, 0), (999, 40, 39), (3, 1, 0)):
            plain = self.begun((), told=(bound, number(worth)))
            plain.beat()
            plain.beat()
            self.assertEqual(plain.stand()[1], (2, (), (0,), 4, told))
            plain.beat()
            self.assertEqual(plain.stand()[0], (2, (), (told % 7,), 0, 0))
        plain = self.begun((), told=(40, number(39)), main_boxes=(("x", 1, 0),))
        for beat in range(3):
            plain.beat()
        self.assertEqual(plain.stand(), ((2, (), (0,), 0, 0), (2, (), (0,), 0, 39)))

    def test_boxes_of_the_other_room_are_its_own_and_stay(self):
        plain = self.begun((("set", "x", ("plus", X, ONE)),), asking=ZERO)
        for turn in range(1, 20):
            # The call's five beats and the one of the body beneath, the set behind the call, the look at home.
            for beat in range(8):
                plain.beat()
            self.assertEqual(plain.stand(), ((1, (), (1,), 0, 0), (0, (), (turn % 7,), 0, 0)))

    def test_what_the_other_room_says_and_hears(self):
        plain = self.begun((HEAR, ("say", "x", ("plus", X, ASKED))), asking=TWO)
        told = [plain.beat(given, room=room) for given, room in ((9, True), (4, True), (9, True), (9, True))]
        self.assertEqual(told, [(), (), (("sub", 7),), ()])
        self.assertEqual(plain.stand()[1], (4, (), (1,), 2, 1))

    def test_a_for_in_the_other_room(self):
        plain = self.begun((("for", ASKED, 9, (SET,)),), asking=ONE)
        main = (1, (), (4,), 0, 0)
        self.beats(
            plain, (main, (1, (0,), (0,), 1, 0)), (main, (2, (1,), (0,), 1, 0)), (main, (3, (0,), (0,), 1, 0)),
            (main, (2, (0,), (1,), 1, 0)), (main, (4, (0,), (1,), 1, 0)), (main, (5, (0,), (1,), 1, 1)))

    def test_calls_within_calls(self):
        program = Program((
            first((CALL,), boxes=(("x", 7, 3),)), other((("call", "x", "low", ("plus", ASKED, ONE)),)),
            Room("low", above="sub", ask=9, told=(9, ("plus", ASKED, ONE)))))
        # main: home, ask, clear, again; sub: home, ask, clear, again, tell, told; low: home, tell, told
        plain = Plain(program)
        main, low = (1, (), (3,), 0, 0), (0, (), (), 0, 0)
        sub = (1, (), (0,), 3, 0)
        self.beats(
            plain, (main, (0, (), (0,), 0, 0), low), (main, sub, low), (main, sub, (1, (), (), 4, 0)),
            (main, sub, (2, (), (), 4, 5)), (main, (2, (), (5,), 3, 0), (2, (), (), 4, 5)),
            (main, (2, (), (5,), 3, 0), low), (main, (4, (), (5,), 3, 0), low), (main, (5, (), (5,), 3, 5), low),
            ((2, (), (5,), 0, 0), (5, (), (5,), 3, 5), low), ((2, (), (5,), 0, 0), (0, (), (5,), 0, 0), low),
            ((0, (), (5,), 0, 0), (0, (), (5,), 0, 0), low), ((1, (), (5,), 0, 0), (0, (), (5,), 0, 0), low),
            ((1, (), (5,), 0, 0), (1, (), (5,), 0, 0), low))

    def test_a_call_at_the_end_of_a_for(self):
        program = pair((("for", ONE, 1, (("call", "x", "sub", TWO),)),))
        # home, for, check, ask, clear, again
        places = []
        plain = Plain(program)
        for beat in range(11):
            plain.beat()
            places.append((plain.stand()[0][0], plain.stand()[0][1], plain.stand()[1][0]))
        self.assertEqual(places, [
            (1, (0,), 0), (2, (1,), 0), (3, (0,), 0), (3, (0,), 1), (3, (0,), 2), (4, (0,), 2), (4, (0,), 0),
            (2, (0,), 0), (0, (0,), 0), (1, (0,), 0), (2, (1,), 0)])


class FirstsTest(PlainCase):
    def test_the_first_room_takes_its_firsts(self):
        boxes = (("x", 7, 0), ("y", 7, 5))
        body = (("set", "y", ONE), SET)
        plain = Plain(alone(body, boxes=boxes, sayings=(("below", X, ("number", 9)), X_IS_ZERO)))
        self.beats(plain, ((1, (), (0, 5), 0, 0),), ((2, (), (0, 1), 0, 0),), None)
        self.assertEqual(plain.refills(), (0,))
        self.assertIsNone(plain.stand())
        self.beats(plain, ((0, (), (0, 5), 0, 0),))
        self.assertEqual(plain.refills(), (1,))
        self.beats(plain, ((1, (), (0, 5), 0, 0),), ((2, (), (0, 1), 0, 0),), None, ((0, (), (0, 5), 0, 0),))
        self.assertEqual(plain.refills(), (2,))
        self.assertEqual(plain.now(), 8)

    def test_away_from_home_no_saying_is_looked_at(self):
        plain = Plain(alone((SET, ("set", "x", ZERO)), sayings=(X_IS_ZERO,)))
        self.beats(plain, ((1, (), (0,), 0, 0),), ((2, (), (1,), 0, 0),), ((0, (), (0,), 0, 0),))
        self.assertEqual(plain.refills(), (0,))

    def sub_program(self, main, *, sayings=()):
        sub = Room(
            "sub", above="main", boxes=(("x", 7, 0), ("y", 7, 3)), sayings=(X_IS_ZERO,), ask=5, told=(6, X),
            body=(("set", "y", ASKED), SET))
        return Program((first(main, sayings=sayings), sub))

    def test_a_room_beneath_takes_its_firsts_at_its_look(self):
        # main: home, ask, clear, again, hear; sub: home, set, set, tell, told
        plain = Plain(self.sub_program((CALL, HEAR)))
        main, taken = (1, (), (0,), 0, 0), (2, (), (1,), 0, 0)
        self.beats(
            plain, (main, (0, (), (0, 3), 0, 0)), (main, (1, (), (0, 3), 0, 0)), (main, (2, (), (0, 0), 0, 0)),
            (main, (3, (), (1, 0), 0, 0)), (main, (4, (), (1, 0), 0, 1)), (taken, (4, (), (1, 0), 0, 1)), None)
        self.assertEqual(plain.refills(), (0, 0))
        self.beats(plain, ((4, (), (1,), 0, 0), (0, (), (0, 3), 0, 0)))
        self.assertEqual(plain.refills(), (0, 1))
        self.beats(plain, ((0, (), (0,), 0, 0), (0, (), (0, 3), 0, 0)))
        self.assertEqual(plain.refills(), (0, 1))

    def test_both_take_their_firsts_one_behind_the_other(self):
        plain = Plain(self.sub_program((CALL,), sayings=(X_IS_ZERO,)))
        for beat in range(6):
            plain.beat()
        # The other one goes home; this one goes home while that one looks; this one looks; it begins.
        self.beats(plain, None, None, ((0, (), (0,), 0, 0), (0, (), (0, 3), 0, 0)))
        self.assertEqual(plain.refills(), (1, 1))
        self.beats(plain, ((1, (), (0,), 0, 0), (0, (), (0, 3), 0, 0)))
        self.assertEqual(plain.refills(), (1, 1))

    def test_what_was_told_stays_told(self):
        plain = Plain(alone((SET,), sayings=(X_IS_ZERO,)))
        told = [(plain.stand(), plain.refills(), plain.beat()) for k in range(7)]
        self.assertEqual([one[0] for one in told], [
            ((0, (), (0,), 0, 0),), ((1, (), (0,), 0, 0),), None] * 2 + [((0, (), (0,), 0, 0),)])
        self.assertEqual([one[1] for one in told], [(0,), (0,), (0,), (1,), (1,), (1,), (2,)])


class BegunTest(PlainCase):
    def test_from_a_stand_to_which_nothing_comes(self):
        program = alone((("for", ZERO, 9, (SET,)),), boxes=(("x", 40, 0),))
        plain = Plain(program, stand=((3, (8,), (39,), 0, 0),))
        self.assertEqual(plain.stand(), ((3, (8,), (39,), 0, 0),))
        self.assertEqual((plain.now(), plain.refills()), (0, (0,)))
        self.beats(plain, ((2, (8,), (1,), 0, 0),), ((3, (7,), (1,), 0, 0),))

    def test_from_each_place_of_a_call(self):
        # main: home, ask, clear, again; sub: home, set, tell, told
        program = pair((CALL,), (SET,))
        ask, clear, home = (1, (), (3,), 0, 0), (2, (), (3,), 0, 0), (0, (), (5,), 0, 0)
        for stand, behind in (
                ((ask, home), (ask, (1, (), (5,), 3, 0))), ((ask, (1, (), (5,), 3, 0)), (ask, (2, (), (1,), 3, 0))),
                ((ask, (2, (), (5,), 3, 0)), (ask, (3, (), (5,), 3, 5))),
                ((ask, (3, (), (5,), 3, 4)), ((2, (), (4,), 0, 0), (3, (), (5,), 3, 4))),
                ((clear, (3, (), (5,), 0, 4)), (clear, home)), ((clear, home), ((0, (), (3,), 0, 0), home)),
                (((0, (), (6,), 0, 0), home), ((1, (), (6,), 0, 0), home))):
            plain = Plain(program, stand=stand)
            self.assertEqual(plain.stand(), stand)
            self.beats(plain, behind)

    def test_goes_on_as_the_one_that_told_it(self):
        many = 0
        for source, program in programs(range(40)):
            elder = Plain(program)
            others = []
            for k in range(60):
                stand = elder.stand()
                if stand is not None:
                    others.append((Plain(program, stand=stand), elder.refills()))
                    many += 1
                given, room = source.choice((None, 0, 3, MANY)), source.choice((True, False))
                said = elder.beat(given, room=room)
                others = others[-8:]
                for plain, took in others:
                    self.assertEqual(plain.beat(given, room=room), said)
                    self.assertEqual(plain.stand(), elder.stand())
                    more = tuple(one + two for one, two in zip(plain.refills(), took))
                    self.assertEqual(more, elder.refills())
        self.assertGreater(many, 2000)


class WordsTest(unittest.TestCase):
    """The plain reading against all rooms stepping at once by their words (point 12)."""

    def together(self, source, program, plain, words, many):
        for k in range(many):
            given, room = source.choice((None, 0, 1, 5, MANY)), source.choice((True, True, False))
            self.assertEqual(plain.beat(given, room=room), words.beat(given, room))
            self.assertEqual(plain.stand(), stand_of(program, tuple(words.words)))
            self.assertEqual(plain.refills(), tuple(words.refills))

    def test_from_the_beginning(self):
        took = 0
        for source, program in programs(range(120)):
            plain = Plain(program)
            words = Words(program)
            self.assertEqual(plain.stand(), stand_of(program, tuple(words.words)))
            self.together(source, program, plain, words, 50)
            took += sum(plain.refills())
        self.assertGreater(took, 50)

    def test_from_any_stand(self):
        many = 0
        for source, program in programs(range(120)):
            bounds = Words(program).bounds()
            for k in range(15):
                words = tuple(
                    source.choice((0, 0, source.randrange(bound), source.randrange(MANY))) for bound in bounds)
                stand = stand_of(program, words)
                if stand is not None:
                    self.together(source, program, Plain(program, stand=stand), Words(program, words), 15)
                    many += 1
        self.assertGreater(many, 200)


class CallsTest(unittest.TestCase):
    def test_by_places_and_by_names(self):
        program = alone((HEAR, ("say", "x", X)))
        stand = ((1, (), (0,), 0, 0),)
        plains = [Plain(program, stand=stand), Plain(program=program, stand=stand), Plain(stand=stand, program=program)]
        self.assertEqual([plain.beat(3) for plain in plains[:1]], [()])
        self.assertEqual([plain.beat(given=3) for plain in plains[1:]], [(), ()])
        self.assertEqual({plain.stand() for plain in plains}, {((2, (), (4,), 0, 0),)})
        self.assertEqual(plains[0].beat(None, room=True), (("main", 4),))
        self.assertEqual(plains[1].beat(), (("main", 4),))
        self.assertEqual(plains[2].beat(room=False, given=1), ())
        self.assertEqual(Plain(program, stand=None).stand(), Plain(program).stand())

    def test_behind_the_star_by_name_alone(self):
        program = alone((HEAR,))
        with self.assertRaises(TypeError):
            Plain(program, ((1, (), (0,), 0, 0),))
        with self.assertRaises(TypeError):
            Plain(program).beat(None, False)

    def test_two_readings_share_nothing(self):
        program = pair((SET, CALL), (SET,))
        one, two = Plain(program), Plain(program)
        stand = two.stand()
        for beat in range(4):
            one.beat()
        self.assertEqual((two.stand(), two.now(), two.refills()), (stand, 0, (0, 0)))
        three = Plain(program, stand=one.stand())
        stand = one.stand()
        for beat in range(4):
            three.beat()
        self.assertEqual((one.stand(), one.now()), (stand, 4))
        self.assertEqual(program, pair((SET, CALL), (SET,)))

    def test_asking_changes_nothing(self):
        plain, other_one = Plain(pair((SET, CALL), (SET,))), Plain(pair((SET, CALL), (SET,)))
        for beat in range(20):
            for k in range(3):
                self.assertEqual((plain.stand(), plain.now(), plain.refills()), (
                    other_one.stand(), beat, other_one.refills()))
            plain.beat()
            other_one.beat()
