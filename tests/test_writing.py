"""Points 2, 5 and 8: the texts of expressions, tests and programs."""

import unittest

from anystore.programs import Program, Room
from anystore.writing import expression_text, program_text, test_text
from tests.samples import ASKED, CALL, HEAR, ONE, SAY, SET, TOLD, TWO, X, X_IS_ZERO, ZERO, alone, first, other, pair


class ExpressionTextTest(unittest.TestCase):
    def check(self, expression, wanted):
        self.assertEqual(expression_text(expression), wanted)

    def test_numbers_have_no_nought_ahead(self):
        for n in (0, 1, 9, 10, 100, 101, 999):
            self.check(("number", n), str(n))
        self.check(ZERO, "0")

    def test_boxes_also_near_the_kept_words(self):
        for name in ("x", "tolds", "ask", "nots", "askeds", "an", "ands", "orr", "rest", "is", "abcdefgh"):
            self.check(("box", name), name)

    def test_asked_and_told(self):
        self.check(ASKED, "asked")
        self.check(TOLD, "told")

    def test_deeds(self):
        self.check(("plus", X, ONE), "(x + 1)")
        self.check(("less", X, ONE), "(x - 1)")
        self.check(("times", X, ONE), "(x * 1)")
        self.check(("over", X, ONE), "(x // 1)")
        self.check(("rest", X, ONE), "(x rest 1)")

    def test_within_one_another(self):
        self.check(("plus", ("less", X, ASKED), ("over", TOLD, TWO)), "((x - asked) + (told // 2))")
        deep = ("rest", ("times", ("plus", ("less", X, ONE), TWO), ("box", "nots")), ("number", 999))
        self.check(deep, "((((x - 1) + 2) * nots) rest 999)")
        self.check(("less", ONE, ("less", ONE, ("less", ONE, ("less", ONE, X)))), "(1 - (1 - (1 - (1 - x))))")


class TestTextTest(unittest.TestCase):
    def check(self, test, wanted):
        self.assertEqual(test_text(test), wanted)

    def test_each_kind(self):
        self.check(("is", X, ZERO), "(x == 0)")
        self.check(("below", X, ASKED), "(x < asked)")
        self.check(("not", X_IS_ZERO), "(not (x == 0))")
        self.check(("both", X_IS_ZERO, ("below", X, ONE)), "((x == 0) and (x < 1))")
        self.check(("either", X_IS_ZERO, ("below", X, ONE)), "((x == 0) or (x < 1))")

    def test_within_one_another(self):
        deep = ("not", ("both", ("either", X_IS_ZERO, ("not", X_IS_ZERO)), ("below", TOLD, ("plus", X, ONE))))
        self.check(deep, "(not (((x == 0) or (not (x == 0))) and (told < (x + 1))))")
        self.check(("is", ("box", "tolds"), ("rest", ("box", "ask"), ("box", "nots"))), "(tolds == (ask rest nots))")


class ProgramTextTest(unittest.TestCase):
    def check(self, program, *lines):
        text = program_text(program)
        self.assertEqual(text.split("\n"), list(lines))
        self.assertEqual(str(program), text)

    def body(self, body, *lines):
        self.check(alone(body), "room main", " box x 7 0", *lines)

    def test_the_least(self):
        self.assertEqual(program_text(Program((Room("a"),))), "room a")

    def test_first_room(self):
        room = first(name="hall", boxes=(("a", 40, 39), ("tolds", 1, 0), ("x", 10, 3), ("zz", 2, 1)), sayings=(
            ("below", X, ("number", 10)), ("not", ("is", ("box", "zz"), ("box", "tolds")))))
        self.check(
            Program((room,)), "room hall", " box a 40 39", " box tolds 1 0", " box x 10 3", " box zz 2 1",
            " saying (x < 10)", " saying (not (zz == tolds))")

    def test_other_rooms(self):
        promise = ("below", TOLD, ("plus", ASKED, TWO))
        program = Program((
            first(), other((SET,), promise=promise), other(name="next", above="sub", boxes=(("x", 2, 1),))))
        self.check(
            program, "room main", " box x 7 0",
            "room sub in main", " box x 7 0", " asked 5", " tells 6 x", " promise (told < (asked + 2))", " set x 1",
            "room next in sub", " box x 2 1", " asked 5", " tells 6 x")

    def test_sayings_stand_ahead_of_asked(self):
        room = Room(
            "sub", above="main", boxes=(("x", 4, 0),), sayings=(X_IS_ZERO,), ask=40, told=(1, ("plus", ASKED, X)),
            promise=("is", TOLD, TOLD), body=(HEAR,))
        self.check(
            Program((Room("main"), room)), "room main", "room sub in main", " box x 4 0", " saying (x == 0)",
            " asked 40", " tells 1 (asked + x)", " promise (told == told)", " hear x")

    def test_eight_rooms(self):
        names = "abcdefgh"
        above = "-aabbcda"
        rooms = [Room("a")]
        lines = ["room a"]
        for name, over in list(zip(names, above))[1:]:
            rooms.append(Room(name, above=over, ask=1, told=(2, ASKED)))
            lines.extend([f"room {name} in {over}", " asked 1", " tells 2 asked"])
        self.check(Program(tuple(rooms[:1])), *lines[:1])
        self.check(Program(tuple(rooms[:5])), *lines[:13])
        self.check(Program(tuple(rooms)), *lines)

    def test_plain_steps(self):
        self.body((SET,), " set x 1")
        self.body((HEAR,), " hear x")
        self.body((SAY,), " say x 2")
        self.body((SAY, SET, HEAR, SET), " say x 2", " set x 1", " hear x", " set x 1")
        self.body((("set", "x", ("times", X, ("less", X, ONE))),), " set x (x * (x - 1))")

    def test_call(self):
        self.check(
            pair((CALL, SET)), "room main", " box x 7 0", " call x sub x", " set x 1",
            "room sub in main", " box x 7 0", " asked 5", " tells 6 x")

    def test_asked_in_a_body(self):
        self.check(
            pair((), (("set", "x", ASKED),)), "room main", " box x 7 0",
            "room sub in main", " box x 7 0", " asked 5", " tells 6 x", " set x asked")

    def test_if(self):
        self.body((("if", X_IS_ZERO, (), ()),), " if (x == 0)")
        self.body((("if", X_IS_ZERO, (SET, HEAR), ()), SAY), " if (x == 0)", "  set x 1", "  hear x", " say x 2")
        self.body((("if", X_IS_ZERO, (), (SET,)), SAY), " if (x == 0)", " else", "  set x 1", " say x 2")
        self.body((("if", X_IS_ZERO, (HEAR,), (SET, SAY)), SAY),
                  " if (x == 0)", "  hear x", " else", "  set x 1", "  say x 2", " say x 2")

    def test_for(self):
        self.body((("for", X, 9, ()),), " for x upto 9")
        self.body((("for", ("plus", X, ONE), 1, (SET, HEAR)), SAY),
                  " for (x + 1) upto 1", "  set x 1", "  hear x", " say x 2")

    def test_four_within_one_another(self):
        inner = ("if", X_IS_ZERO, (("for", ZERO, 3, (SET,)),), (HEAR,))
        self.body((("for", ONE, 2, (inner, SAY)), SET),
                  " for 1 upto 2", "  if (x == 0)", "   for 0 upto 3", "    set x 1", "  else", "   hear x", "  say x 2",
                  " set x 1")
        deep = ("if", X_IS_ZERO, (), (("if", X_IS_ZERO, (), (("if", X_IS_ZERO, (), (("for", X, 4, ()),)),)),))
        self.body((deep, SET),
                  " if (x == 0)", " else", "  if (x == 0)", "  else", "   if (x == 0)", "   else", "    for x upto 4",
                  " set x 1")

    def test_blanks_and_ends(self):
        text = program_text(pair((CALL, ("for", X, 4, (("if", X_IS_ZERO, (SET,), (SAY,)),)),), (HEAR,)))
        self.assertFalse(text.endswith("\n"))
        for line in text.split("\n"):
            self.assertNotIn("  ", line.lstrip(" "))
            self.assertEqual(line, line.rstrip(" "))


class CallsTest(unittest.TestCase):
    def test_by_places_and_by_names(self):
        self.assertEqual(expression_text(expression=("plus", X, ONE)), expression_text(("plus", X, ONE)))
        self.assertEqual(test_text(test=X_IS_ZERO), test_text(X_IS_ZERO))
        program = pair((CALL,))
        self.assertEqual(program_text(program=program), program_text(program))

    def test_texts_are_told(self):
        for text in (expression_text(ZERO), test_text(X_IS_ZERO), program_text(pair())):
            self.assertIs(type(text), str)

    def test_the_program_stays_as_it_was(self):
        program = pair((CALL, SET), (HEAR,))
        program_text(program)
        self.assertEqual(program, pair((CALL, SET), (HEAR,)))
