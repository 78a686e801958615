"""Points 2 and 9: places."""

import unittest

from anystore.errors import NoRoom
from anystore.places import places
from anystore.programs import Program, Room
from tests.samples import (
    ASKED, CALL, HEAR, NO_NAMES, ONE, SAY, SET, TWO, X, X_IS_ZERO, ZERO, alone, first, other, pair)


class FirstRoomTest(unittest.TestCase):
    def check(self, body, *wanted):
        self.assertEqual(places(pair(body), "main"), list(wanted))

    def test_the_empty_body(self):
        self.check((), ("home", 0))

    def test_set(self):
        self.check((SET,), ("home", 1), ("set", "x", ONE, 0))

    def test_hear(self):
        self.check((HEAR,), ("home", 1), ("hear", "x", 0))

    def test_say(self):
        self.check((SAY,), ("home", 1), ("say", "x", TWO, 0))

    def test_several(self):
        self.check((SAY, HEAR, SET, SET), ("home", 1), ("say", "x", TWO, 2), ("hear", "x", 3), ("set", "x", ONE, 4),
                   ("set", "x", ONE, 0))

    def test_call(self):
        self.check((CALL,), ("home", 1), ("ask", "x", "sub", X, 2, 3), ("clear", "sub", 0), ("again", "sub", 1))
        self.check((SET, CALL, CALL, SET), ("home", 1), ("set", "x", ONE, 2),
                   ("ask", "x", "sub", X, 3, 4), ("clear", "sub", 5), ("again", "sub", 2),
                   ("ask", "x", "sub", X, 6, 7), ("clear", "sub", 8), ("again", "sub", 5), ("set", "x", ONE, 0))

    def test_if_with_empty_bodies(self):
        self.check((("if", X_IS_ZERO, (), ()),), ("home", 1), ("if", X_IS_ZERO, 0, 0))
        self.check((("if", X_IS_ZERO, (), ()), SET), ("home", 1), ("if", X_IS_ZERO, 2, 2), ("set", "x", ONE, 0))
        self.check((("if", X_IS_ZERO, (SET,), ()), HEAR), ("home", 1), ("if", X_IS_ZERO, 2, 3), ("set", "x", ONE, 3),
                   ("hear", "x", 0))
        self.check((("if", X_IS_ZERO, (), (SET,)), HEAR), ("home", 1), ("if", X_IS_ZERO, 3, 2), ("set", "x", ONE, 3),
                   ("hear", "x", 0))

    def test_if_with_both_bodies(self):
        self.check((("if", X_IS_ZERO, (SET, HEAR), (SAY, SET)), HEAR), ("home", 1), ("if", X_IS_ZERO, 2, 4),
                   ("set", "x", ONE, 3), ("hear", "x", 6), ("say", "x", TWO, 5), ("set", "x", ONE, 6), ("hear", "x", 0))
        self.check((("if", X_IS_ZERO, (SET,), (SAY,)),), ("home", 1), ("if", X_IS_ZERO, 2, 3), ("set", "x", ONE, 0),
                   ("say", "x", TWO, 0))

    def test_call_at_the_end_of_an_if(self):
        self.check((("if", X_IS_ZERO, (CALL,), (HEAR, CALL)), SET), ("home", 1), ("if", X_IS_ZERO, 2, 5),
                   ("ask", "x", "sub", X, 3, 4), ("clear", "sub", 9), ("again", "sub", 2), ("hear", "x", 6),
                   ("ask", "x", "sub", X, 7, 8), ("clear", "sub", 9), ("again", "sub", 6), ("set", "x", ONE, 0))

    def test_ifs_at_the_end_of_ifs(self):
        inner = ("if", X_IS_ZERO, (SET,), ())
        self.check((("if", X_IS_ZERO, (SAY, inner), (inner,)), HEAR), ("home", 1), ("if", X_IS_ZERO, 2, 5),
                   ("say", "x", TWO, 3), ("if", X_IS_ZERO, 4, 7), ("set", "x", ONE, 7),
                   ("if", X_IS_ZERO, 6, 7), ("set", "x", ONE, 7), ("hear", "x", 0))

    def test_empty_for(self):
        self.check((("for", X, 4, ()),), ("home", 1), ("for", 0, X, 4, 2), ("check", 0, 2, 0))
        self.check((("for", X, 4, ()), SET), ("home", 1), ("for", 0, X, 4, 2), ("check", 0, 2, 3), ("set", "x", ONE, 0))

    def test_for(self):
        self.check((HEAR, ("for", TWO, 9, (SET, SAY)), SET), ("home", 1), ("hear", "x", 2), ("for", 0, TWO, 9, 3),
                   ("check", 0, 4, 6), ("set", "x", ONE, 5), ("say", "x", TWO, 3), ("set", "x", ONE, 0))

    def test_call_at_the_end_of_a_for(self):
        self.check((("for", X, 1, (CALL,)),), ("home", 1), ("for", 0, X, 1, 2), ("check", 0, 3, 0),
                   ("ask", "x", "sub", X, 4, 5), ("clear", "sub", 2), ("again", "sub", 3))

    def test_ifs_at_the_end_of_a_for(self):
        inner = ("if", X_IS_ZERO, (), (("if", X_IS_ZERO, (SET,), ()),))
        self.check((("for", X, 2, (SAY, inner)), HEAR), ("home", 1), ("for", 0, X, 2, 2), ("check", 0, 3, 7),
                   ("say", "x", TWO, 4), ("if", X_IS_ZERO, 2, 5), ("if", X_IS_ZERO, 6, 2), ("set", "x", ONE, 2),
                   ("hear", "x", 0))

    def test_for_at_the_end_of_an_if(self):
        self.check((("if", X_IS_ZERO, (("for", X, 2, ()),), (("for", ONE, 3, (SET,)),)), HEAR), ("home", 1),
                   ("if", X_IS_ZERO, 2, 4), ("for", 0, X, 2, 3), ("check", 0, 3, 7),
                   ("for", 1, ONE, 3, 5), ("check", 1, 6, 7), ("set", "x", ONE, 5), ("hear", "x", 0))

    def test_fors_within_fors_are_numbered_as_written(self):
        inner = ("for", ONE, 2, (("for", TWO, 3, (SET,)), ("for", ZERO, 4, ())))
        self.check((("for", X, 1, (inner,)), ("for", X, 5, (HEAR,))), ("home", 1), ("for", 0, X, 1, 2),
                   ("check", 0, 3, 10), ("for", 1, ONE, 2, 4), ("check", 1, 5, 2), ("for", 2, TWO, 3, 6),
                   ("check", 2, 7, 8), ("set", "x", ONE, 6), ("for", 3, ZERO, 4, 9), ("check", 3, 9, 4),
                   ("for", 4, X, 5, 11), ("check", 4, 12, 0), ("hear", "x", 11))

    def test_four_within_one_another(self):
        innermost = ("for", ONE, 2, (CALL,))
        body = (("for", X, 1, (("if", X_IS_ZERO, (innermost,), ()),)),)
        self.check(body, ("home", 1), ("for", 0, X, 1, 2), ("check", 0, 3, 0), ("if", X_IS_ZERO, 4, 2),
                   ("for", 1, ONE, 2, 5), ("check", 1, 6, 2), ("ask", "x", "sub", X, 7, 8), ("clear", "sub", 5),
                   ("again", "sub", 6))


class OtherRoomsTest(unittest.TestCase):
    def check(self, body, *wanted):
        self.assertEqual(places(pair((CALL,), body), "sub"), list(wanted))

    def test_the_empty_body(self):
        self.check((), ("home", 1), ("tell", 6, X, 2), ("told", 0))

    def test_plain_steps(self):
        self.check((SET, ("say", "x", ASKED)), ("home", 1), ("set", "x", ONE, 2), ("say", "x", ASKED, 3),
                   ("tell", 6, X, 4), ("told", 0))

    def test_all_ends_lead_to_tell(self):
        inner = ("if", X_IS_ZERO, (SET,), (("for", X, 2, (HEAR,)),))
        self.check((("if", X_IS_ZERO, (inner,), ()),), ("home", 1), ("if", X_IS_ZERO, 2, 7), ("if", X_IS_ZERO, 3, 4),
                   ("set", "x", ONE, 7), ("for", 0, X, 2, 5), ("check", 0, 6, 7), ("hear", "x", 5),
                   ("tell", 6, X, 8), ("told", 0))

    def test_what_a_room_tells(self):
        told = (40, ("plus", ASKED, X))
        room = Room("b", above="a", boxes=(("x", 2, 1),), ask=1, told=told, promise=("is", ASKED, ASKED))
        self.assertEqual(places(Program((Room("a"), room)), "b"),
                         [("home", 1), ("tell", 40, ("plus", ASKED, X), 2), ("told", 0)])

    def test_a_call_in_another_room(self):
        program = Program((first(), other((("call", "x", "low", ASKED),)), other(name="low", above="sub")))
        self.assertEqual(places(program, "sub"), [
            ("home", 1), ("ask", "x", "low", ASKED, 2, 3), ("clear", "low", 4), ("again", "low", 1),
            ("tell", 6, X, 5), ("told", 0)])
        self.assertEqual(places(program, "main"), [("home", 0)])
        self.assertEqual(places(program, "low"), [("home", 1), ("tell", 6, X, 2), ("told", 0)])


class CallsTest(unittest.TestCase):
    def test_by_places_and_by_names(self):
        program = pair((CALL, SET))
        self.assertEqual(places(name="main", program=program), places(program, "main"))

    def test_each_call_tells_a_new_list(self):
        program = pair((CALL, SET), (HEAR,))
        for name in ("main", "sub"):
            told = places(program, name)
            kept = list(told)
            self.assertIs(type(told), list)
            self.assertEqual({type(place) for place in told}, {tuple})
            told.clear()
            self.assertEqual(places(program, name), kept)
            self.assertIsNot(places(program, name), places(program, name))
        self.assertEqual(program, pair((CALL, SET), (HEAR,)))

    def test_no_room(self):
        for program in (alone(()), pair((CALL,))):
            for thing in NO_NAMES:
                with self.assertRaises(NoRoom) as caught:
                    places(program, thing)
                self.assertIs(caught.exception.name, thing)
        with self.assertRaises(NoRoom):
            places(program=alone(()), name="sub")
