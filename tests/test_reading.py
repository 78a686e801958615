"""Points 2, 4, 5 and 8: programs read from their texts."""

import unittest

from anystore.errors import NoText
from anystore.plain import Plain
from anystore.programs import Program, Room
from anystore.reading import read_program
from anystore.writing import program_text
from tests.chance import NAMES, programs
from tests.samples import ASKED, CALL, HEAR, ONE, SAY, SET, TOLD, X, X_IS_ZERO, alone, first, other, pair

# One line of each kind, some of them twice, in a text that is read.
WHOLE = (
    "room main", " box x 7 0", " box y 40 39", " saying (x == 0)", " saying (not (y < x))", " set x 1", " if (x == y)",
    "  hear x", " else", "  say y (x + 2)", "  for (x rest 3) upto 9", "   call x sub (y - 1)", " hear y",
    "room sub in main", " box z 2 1", " saying (z == 1)", " asked 40", " tells 5 (asked * z)", " promise (told < 5)",
    " for 3 upto 2", "  if (asked < 999)", "   set z 1", "room low in sub", " asked 1", " tells 1 0")


NUMBERS = range(1, len(WHOLE) + 1)


class ReadAgainTest(unittest.TestCase):
    def again(self, program):
        text = program_text(program)
        told = read_program(text)
        self.assertIs(type(told), Program)
        self.assertEqual(told, program)
        self.assertEqual(str(told), text)

    def test_the_least(self):
        self.assertEqual(read_program("room a"), Program((Room("a"),)))

    def test_the_whole(self):
        program = read_program("\n".join(WHOLE))
        self.assertEqual(str(program).split("\n"), list(WHOLE))
        self.assertEqual([room.name for room in program.rooms()], ["main", "sub", "low"])
        self.assertEqual(program.room_of("sub"), Room(
            "sub", above="main", boxes=(("z", 2, 1),), sayings=(("is", ("box", "z"), ONE),), ask=40,
            told=(5, ("times", ASKED, ("box", "z"))), promise=("below", TOLD, ("number", 5)),
            body=(("for", ("number", 3), 2, (("if", ("below", ASKED, ("number", 999)), (("set", "z", ONE),), ()),)),)))
        self.again(program)

    def test_each_kind_of_step(self):
        inner = ("if", X_IS_ZERO, (SET,), (HEAR,))
        deep = ("if", X_IS_ZERO, (), (("for", X, 2, (inner,)),))
        for body in (
                (), (SET,), (HEAR, SAY), (CALL, SET), (("if", X_IS_ZERO, (), ()),),
                (("if", X_IS_ZERO, (SET,), ()), SET), (("if", X_IS_ZERO, (), (SET,)), SET), (("if", X_IS_ZERO, (SET, CALL), (SAY,)), HEAR), (inner, inner),
                (("for", X, 9, ()),), (("for", X, 1, (SET, CALL)), SAY), (deep, deep), (SET,) * 12,
                (("for", X, 3, (SET,) * 9),) * 3, (("if", X_IS_ZERO, (("for", X, 1, (inner, inner)),), ()), SET)):
            self.again(pair(body, ()))
            self.again(Program((first(name="hall"), other(body, name="main", above="hall"), other())))

    def test_words_of_texts_as_names(self):
        words = NAMES[:15]
        self.assertIn("upto", words)
        for word in words:
            box = ("box", word)
            body = (
                ("set", word, box), ("if", ("is", box, ("rest", box, box)), (("hear", word),), (("say", word, box),)),
                ("for", box, 3, (("call", word, "room", box),)), ("for", ("rest", box, box), 3, ()))
            self.again(Program((
                Room("in", boxes=((word, 5, 0),), sayings=(("is", box, box),), body=body),
                Room("room", above="in", boxes=((word, 5, 0),), ask=3, told=(2, box)))))
            if word != "main":
                self.again(Program((
                    Room("main", boxes=(("x", 2, 0),), body=(("call", "x", word, X),)),
                    Room(word, above="main", ask=1, told=(1, ASKED)))))
                self.again(Program((Room(word), Room("main", above=word, ask=1, told=(1, ASKED)))))

    def test_by_chance(self):
        many = set()
        for source, program in programs(range(160)):
            self.again(program)
            many.add(len(program))
        self.assertEqual(many, set(range(1, 9)))

    def test_by_places_and_by_names(self):
        text = "\n".join(WHOLE)
        self.assertEqual(read_program(text=text), read_program(text))
        self.assertEqual(read_program(text).rooms(), read_program(text).rooms())


class TextCase(unittest.TestCase):
    def at(self, thing):
        """The field at of the refusal, "read" where there is none."""
        try:
            read_program(thing)
        except NoText as refusal:
            return refusal.at
        return "read"

    def refused(self, at, *lines):
        self.assertEqual(self.at("\n".join(lines)), at, lines)


class NoTextTest(TextCase):
    def line_refused(self, number, line):
        """Refused at this line, whatever stands behind it, and not ahead of it."""
        ahead = WHOLE[:number - 1]
        self.refused(number, *ahead, line)
        self.refused(number, *ahead, line, *WHOLE[number:])
        self.refused(number, *ahead, line, "", "nonsense", "room")
        if ahead:
            self.assertIn(self.at("\n".join(ahead)), (0, "read"))

    def test_no_text_at_all(self):
        program = pair((CALL,))
        for thing in (
                None, True, False, 0, 1, 10 ** 29, (), ("room a",), [], ["room a"], {}, {"room a": 1}, program,
                program.rooms()[0], Plain(program), b"room a", ("room a", "room b in a"), NoText(3)):
            self.assertEqual(self.at(thing), 0)

    def test_the_empty_text_and_line_ends(self):
        self.assertEqual(self.at(""), 1)
        self.assertEqual(self.at("\n"), 1)
        self.assertEqual(self.at("\nroom a"), 1)
        self.assertEqual(self.at("room a\n"), 2)
        self.assertEqual(self.at("room a\n\n"), 2)
        self.assertEqual(self.at("\n".join(WHOLE) + "\n"), len(WHOLE) + 1)
        self.assertEqual(self.at("room a\n\n box x 1 0"), 2)
        for end in ("\r\n", "\r", "\t", "\x0b", "\x0c", "\x1c", "\x85", "\u2028"):
            self.assertEqual(self.at(f"room a{end}room b in a"), 1)

    def test_other_texts(self):
        for text in ("room", "Room a", "a", "x" * 20000, "(" * 20000, "0", "~", "room a~", " ", "room  a"):
            self.assertEqual(self.at(text), 1)
        for name in (
                "asked", "told", "not", "and", "or", "A", "abcdefghi", "a1", "a_b", "", "(a)", "\u00e4", "a\u0131"):
            self.assertEqual(self.at(f"room {name}"), 1)

    def test_a_word_too_many(self):
        for number in NUMBERS:
            self.line_refused(number, WHOLE[number - 1] + " x")
            self.line_refused(number, WHOLE[number - 1] + " 1")
            self.line_refused(number, WHOLE[number - 1] + WHOLE[number - 1])

    def test_a_word_too_few(self):
        for number in NUMBERS:
            line = WHOLE[number - 1]
            words = line.lstrip(" ").split(" ")
            blanks = line[:len(line) - len(line.lstrip(" "))]
            for left_out in range(len(words)):
                short = words[:left_out] + words[left_out + 1:]
                self.line_refused(number, blanks + " ".join(short))
                self.line_refused(number, blanks + " ".join(words[:left_out]))

    def test_two_blanks_and_one_at_the_end(self):
        for number in NUMBERS:
            line = WHOLE[number - 1]
            self.line_refused(number, line + " ")
            begin = len(line) - len(line.lstrip(" "))
            for at in range(begin, len(line)):
                if line[at] == " ":
                    self.line_refused(number, line[:at] + " " + line[at:])
                    self.line_refused(number, line[:at] + line[at + 1:])
                    self.line_refused(number, line[:at] + "\t" + line[at + 1:])
                if line[at] == "(":
                    self.line_refused(number, line[:at + 1] + " " + line[at + 1:])
                if line[at] == ")":
                    self.line_refused(number, line[:at] + " " + line[at:])

    def test_blanks_ahead(self):
        for number in NUMBERS:
            line = WHOLE[number - 1]
            if line not in ("   set z 1", " hear y", "  hear x"):
                self.line_refused(number, " " + line)
            if line.startswith(" ") and not line.startswith("  "):
                self.line_refused(number, line[1:])
            self.line_refused(number, "\t" + line)
            self.line_refused(number, " " * 9 + line)

    def test_signs_that_are_none(self):
        for number in NUMBERS:
            line = WHOLE[number - 1]
            begin = len(line) - len(line.lstrip(" "))
            for at in range(begin, len(line)):
                for sign in "~A?\"'#":
                    self.line_refused(number, line[:at] + sign + line[at + 1:])

    def test_noughts_ahead(self):
        for number in NUMBERS:
            line = WHOLE[number - 1]
            for at, sign in enumerate(line):
                if sign.isdigit() and not line[at - 1].isdigit():
                    self.line_refused(number, line[:at] + "0" + line[at:])
                    self.line_refused(number, line[:at] + "-" + line[at:])
                    self.line_refused(number, line[:at] + "+" + line[at:])
        for number in ("00", "01", "000000", "1_0", "\u00b2", "\u0661", "1.", "0x1", "1e1", "-0"):
            self.refused(2, "room a", f" box x {number} 0")
            self.refused(2, "room a", f" box x 7 {number}")
            self.refused(2, "room a", f" for 1 upto {number}")
            self.refused(3, "room a", " box x 7 0", f" set x {number}")

    def test_six_and_seven_figures(self):
        for ahead, line in (
                ((), " box x {} 0"), ((), " box x 7 {}"), ((), " for 1 upto {}"),
                (("room b in a",), " asked {}"), (("room b in a", " asked 1"), " tells {} 0")):
            at = len(ahead) + 2
            for number in ("999999", "100000", "41"):
                self.refused(0, "room a", *ahead, line.replace("{}", number))
            for number in ("1000000", "9999999", "1" * 5000, "0999999"):
                self.refused(at, "room a", *ahead, line.replace("{}", number))

    def test_numbers_in_terms(self):
        lines = ("room a", " box x 7 0")
        self.refused("read", *lines, " set x 999", " set x 0")
        for number in ("1000", "999999", "1000000", "1" * 5000, "01", "00", "-1"):
            self.refused(3, *lines, f" set x {number}")
            self.refused(3, *lines, f" set x (x + {number})")
            self.refused(3, *lines, f" if ({number} == x)")
            self.refused(3, *lines, f" for {number} upto 1")


class TermTest(TextCase):
    """Expressions and tests within lines."""

    def let(self, line, *, at="read"):
        self.refused(at, "room main", " box x 7 0", line)

    def test_no_expressions(self):
        for term in (
                "", "(x)", "(x + 1", "x + 1)", "x + 1", "(x + 1))", "((x + 1)", "(x + 1)x", "x(x + 1)", "(x ++ 1)",
                "(x / 1)", "(x % 1)", "(x plus 1)", "(x + 1 + 1)", "(+ x 1)", "()", "(", ")", ")(", "x (", "x (x + 1",
                "x )", "x x", "(x + 1) (", "(x + 1) x", "(x == 1)", "(not x)", "((x == 1) and (x == 1))", "(x + (x == 1))", "not", "and", "or", "(and + 1)", "X", "x1", "1x",
                "abcdefghi", "(x+1)", "(x +1)", "(x+ 1)", "((x + 1)+ 1)", "(1 +(x + 1))", "(x rest)", "(rest x)",
                "(x restx)", "(x  + 1)", "( x + 1)", "(x + 1 )", "[x + 1]", "{x}", "x,", "(x\t+ 1)", "(not (x == 1))"):
            for line in (f" set x {term}", f" say x {term}", f" for {term} upto 1", f" call x sub {term}"):
                self.let(line, at=3)
            self.refused(4, "room main", "room sub in main", " asked 1", f" tells 1 {term}")

    def test_no_tests(self):
        for term in (
                "", "x", "1", "asked", "(x + 1)", "(x)", "(not x)", "(not (x + 1))", "(not(x == 1))", "not (x == 1)",
                "((x == 1))", "(x == 1) and (x == 1)", "((x == 1) and x)", "((x == 1) + (x == 1))", "(x = 1)",
                "((x == 1) == (x == 1))", "(x > 1)", "(x <= 1)", "(x != 1)", "(not (x == 1) (x == 1))", "(x == 1",
                "(not)", "(not )", "(not not)", "(not not (x == 1))", "((x == 1) & (x == 1))", "(x == 1) (",
                "(and (x == 1) (x == 1))", "(x and x)", "(x == (x == 1))", "(x is 1)", "(x ==  1)", "(x == 1) ", "True"):
            self.let(f" if {term}", at=3)
            self.let(f" saying {term}", at=3)
            self.refused(5, "room main", "room sub in main", " asked 1", " tells 1 0", f" promise {term}")

    def test_all_signs(self):
        for sign in ("+", "-", "*", "//", "rest"):
            self.let(f" set x (x {sign} 1)")
            self.let(f" set x ((1 {sign} x) {sign} (x {sign} x))")
        for sign in ("==", "<"):
            self.let(f" if (x {sign} 1)")
        for sign in ("and", "or"):
            self.let(f" if ((x == 1) {sign} (not (x < 1)))")

    def test_how_deep_and_many(self):
        deep = ["x"]
        full = ["x"]
        for k in range(7):
            deep.append(f"({deep[-1]} + 1)")
            full.append(f"({full[-1]} + {full[-1]})")
        self.let(f" set x {deep[4]}")
        self.let(f" set x {deep[5]}", at=3)
        self.let(f" set x {full[3]}")
        self.let(f" set x {full[4]}", at=3)
        self.let(f" if ({deep[3]} == x)")
        self.let(f" if ({deep[4]} == x)", at=3)
        self.let(f" if (not ({full[2]} == {full[2]}))")
        self.let(f" if (not (not ({full[2]} == {full[2]})))", at=3)
        self.let(" if (not (not (not (x == x))))")
        self.let(" if (not (not (not (not (x == x)))))", at=3)

    def test_thousands_deep(self):
        for many in (100, 3000, 9000):
            for line in (
                    " set x " + "(" * many, " set x " + ")" * many, " set x " + "(" * many + "x" + ")" * many,
                    " set x " + "(" * many + "x" + " + 1)" * many, " if " + "(not " * many + "(x == 1)" + ")" * many):
                self.let(line, at=3)

    def test_boxes_rooms_and_told_may_be_any(self):
        self.let(" set x asked", at=0)
        self.let(" set x told", at=0)
        self.let(" set x (z + nobody)", at=0)
        self.let(" set z 1", at=0)
        self.let(" hear z", at=0)
        self.let(" call x nobody x", at=0)
        self.let(" saying (asked == told)", at=0)
        self.let(" saying (z == z)", at=0)
        lines = ("room main", "room sub in main", " asked 1")
        self.refused(0, *lines, " tells 1 told")
        self.refused(0, *lines, " tells 1 z")
        self.refused(0, *lines, " tells 1 0", " promise (z == 0)")
        self.refused(0, "room main", "room sub in nobody", " asked 1", " tells 1 0")
        for word in ("asked", "told", "not", "and", "or"):
            self.let(f" set {word} 1", at=3)
            self.let(f" hear {word}", at=3)
            self.let(f" call {word} sub 1", at=3)
            self.let(f" call x {word} 1", at=3)
            self.let(f" box {word} 1 0", at=3)
            self.let(f"room sub in {word}", at=3)
            self.let(f"room {word} in main", at=3)


class OrderTest(TextCase):
    """Lines that stand where none such may stand."""

    MAIN = ("room main", " box x 7 0")
    SUB = (*MAIN, "room sub in main", " box x 7 0")
    TOLD = (*SUB, " asked 5", " tells 6 x")

    def stands(self, ahead, line, at="read"):
        self.refused(at, *ahead, line)

    def falls(self, ahead, line):
        """The line may not stand behind those ahead, which may stand."""
        self.assertIn(self.at("\n".join(ahead)), (0, "read"))
        for behind in ((), ("", "?"), (" set x 1",), ("room b in main", " asked 1", " tells 1 0")):
            self.refused(len(ahead) + 1, *ahead, line, *behind)

    def test_the_first_line(self):
        for line in WHOLE[1:]:
            for blanks in range(3):
                self.refused(1, " " * blanks + line.lstrip(" "))
                self.refused(1, " " * blanks + line.lstrip(" "), *WHOLE)
        self.refused(1, "room main in sub")

    def test_rooms(self):
        self.falls(self.MAIN, "room sub")
        self.falls(self.TOLD, "room low")
        self.stands(self.TOLD, "room low in sub", 0)
        # A room but the first has to be asked and to tell; at the end of the text that makes no program.
        self.falls(self.SUB, "room low in sub")
        self.falls((*self.SUB, " asked 1"), "room low in sub")
        self.falls((*self.MAIN, "room sub in main"), "room low in sub")
        self.refused(0, *self.SUB)
        self.refused(0, *self.SUB, " asked 1")
        for at in range(3):
            ahead = ("room a", *("room b in a", " asked 1", " tells 1 0") * at)
            self.refused(0, *ahead, "room c in a")

    def test_heads_of_the_first_room(self):
        saying = " saying (x == x)"
        self.stands(self.MAIN, " box y 1 0")
        self.stands(self.MAIN, saying)
        self.stands((*self.MAIN, saying), saying)
        self.falls((*self.MAIN, saying), " box y 1 0")
        for line in (" asked 5", " tells 6 x", " promise (told == told)"):
            for ahead in (self.MAIN, self.MAIN[:1], (*self.MAIN, saying), (*self.MAIN, " set x 1")):
                self.falls(ahead, line)
        for line in (" box y 1 0", saying):
            self.falls((*self.MAIN, " set x 1"), line)
            self.falls((*self.MAIN, " if (x == 1)", "  set x 1"), line)
            self.falls((*self.MAIN, " if (x == 1)"), " " + line)

    def test_heads_of_other_rooms(self):
        saying, promise = " saying (x == x)", " promise (told == told)"
        self.stands((*self.SUB, saying, " asked 5"), " tells 6 x")
        self.stands(self.TOLD, promise)
        self.stands(self.TOLD, " set x 1")
        self.stands((*self.TOLD, promise), " set x 1")
        self.falls(self.SUB, " tells 6 x")
        self.falls((*self.SUB, saying), " tells 6 x")
        self.falls(self.SUB, promise)
        self.falls((*self.SUB, " asked 5"), promise)
        self.falls((*self.SUB, " asked 5"), " asked 5")
        self.falls(self.TOLD, " asked 5")
        self.falls(self.TOLD, " tells 6 x")
        self.falls((*self.TOLD, promise), promise)
        self.falls((*self.TOLD, promise), " tells 6 x")
        self.falls((*self.TOLD, " set x 1"), promise)
        for ahead in ((*self.SUB, " asked 5"), self.TOLD, (*self.TOLD, promise), (*self.TOLD, " set x 1")):
            self.falls(ahead, " box y 1 0")
            self.falls(ahead, saying)

    def test_steps_ahead_of_tells(self):
        for line in (" set x 1", " hear x", " say x 1", " if (x == 1)", " for x upto 1", " call x low 1", " else"):
            for ahead in (
                    self.SUB, self.SUB[:3], (*self.SUB, " saying (x == x)"), (*self.SUB, " asked 5")):
                self.falls(ahead, line)

    def test_steps_too_far_in(self):
        for line in ("set x 1", "hear x", "say x 1", "if (x == 1)", "for x upto 1", "call x low 1"):
            at = 0 if "low" in line else "read"
            for ahead in (self.MAIN, self.TOLD, (*self.MAIN, " set x 1"), (*self.MAIN, " saying (x == x)")):
                self.stands(ahead, " " + line, at)
                self.falls(ahead, "  " + line)
                self.falls(ahead, line)
            for block in (" if (x == 1)", " for x upto 2"):
                for blanks in (1, 2):
                    self.stands((*self.MAIN, block), " " * blanks + line, at)
                    self.stands((*self.MAIN, block, "  set x 1"), " " * blanks + line, at)
                self.falls((*self.MAIN, block), "   " + line)
                self.falls((*self.MAIN, block, "  hear x"), "   " + line)
                self.falls((*self.MAIN, block, "  set x 1", " set x 1"), "  " + line)
                self.stands((*self.MAIN, block, "  for 1 upto 1"), "   " + line, at)

    def test_else(self):
        block = (*self.MAIN, " if (x == 1)")
        for ahead in (block, (*block, "  set x 1"), (*block, "  if (x == 1)", "   set x 1")):
            self.refused("read", *ahead, " else", "  set x 1")
            self.refused("read", *ahead, " else", "  set x 1", "  hear x", " hear x")
            self.refused("read", *ahead, " else", "  set x 1", "room sub in main", " asked 1", " tells 1 0")
        self.refused("read", *block, "  if (x == 1)", "  else", "   set x 1", " else", "  set x 1")
        self.refused("read", *block, "  for 1 upto 1", "   if (x == 1)", "   else", "    set x 1", " else", "  set x 1")

    def test_else_where_none_may_stand(self):
        block = (*self.MAIN, " if (x == 1)")
        for blanks in range(5):
            line = " " * blanks + "else"
            self.falls(self.MAIN, line)
            self.falls(self.MAIN[:1], line)
            self.falls(self.TOLD, line)
            self.falls((*self.MAIN, " set x 1"), line)
            self.falls((*self.MAIN, " for x upto 2"), line)
            self.falls((*self.MAIN, " for x upto 2", "  set x 1"), line)
            self.falls((*block, " else", "  set x 1"), line)
            self.falls((*block, "  set x 1", " set x 1"), line)
            self.falls((*block, "  set x 1", "room sub in main", " asked 1", " tells 1 0"), line)
            if blanks != 1:
                self.falls(block, line)
                self.falls((*block, "  set x 1"), line)
                self.falls((*block, "  for 1 upto 1", "   set x 1"), line)
            if blanks not in (1, 2):
                self.falls((*block, "  if (x == 1)"), line)
            if blanks != 2:
                self.falls((*block, " else", "  if (x == 1)"), line)
            if blanks != 1:
                self.falls((*block, "  if (x == 1)", "  set x 1"), line)

    def test_right_behind_an_else(self):
        ahead = (*self.MAIN, " if (x == 1)", "  set x 1", " else")
        self.assertEqual(self.at("\n".join(ahead)), 0)
        for line in ("set x 1", "hear x", "say x 1", "if (x == 1)", "for x upto 1", "call x low 1"):
            self.stands(ahead, "  " + line, 0 if "low" in line else "read")
            for blanks in ("", " ", "   ", "    "):
                self.falls(ahead, blanks + line)
        for line in (
                " else", "  else", "room sub in main", "room sub", " box x 1 0", "  box x 1 0", " saying (x == x)",
                " asked 1", " tells 1 0", " promise (told == told)", ""):
            self.falls(ahead, line)
        self.falls((*self.MAIN, " if (x == 1)", " else"), " set x 1")
        deep = (*self.MAIN, " for 1 upto 1", "  if (x == 1)", "  else")
        self.refused(0, *deep)
        self.falls(deep, "  set x 1")
        self.falls(deep, " set x 1")
        self.stands(deep, "   set x 1")


class NoProgramTest(TextCase):
    """All lines may stand, and it is no program."""

    def test_by_its_boxes_and_bounds(self):
        for line in (
                " box x 41 0", " box x 7 7", " box x 0 0", " box x 7 8", " saying (x == 0)", " for 1 upto 10",
                " for 1 upto 0"):
            self.refused(0, "room a", line)
        boxes = [f" box {name} 1 0" for name in "abcde"]
        self.refused("read", "room a", *boxes[:4])
        self.refused(0, "room a", *boxes)
        self.refused(0, "room a", boxes[1], boxes[0])
        self.refused(0, "room a", boxes[0], boxes[0])
        saying = " saying (0 == 0)"
        self.refused("read", "room a", *[saying] * 4)
        self.refused(0, "room a", *[saying] * 5)
        self.refused(0, "room a", " saying (0 == 1)")

    def test_by_its_rooms(self):
        rooms = [(f"room {name} in a", " asked 1", " tells 1 0") for name in "bcdefghi"]
        lines = [line for room in rooms for line in room]
        self.refused("read", "room a", *lines[:-3])
        self.refused(0, "room a", *lines)
        self.refused(0, "room a", *rooms[0], *rooms[0])
        self.refused(0, "room a", "room a in a", " asked 1", " tells 1 0")
        self.refused(0, "room a", "room b in c", " asked 1", " tells 1 0", *rooms[1])
        deep = [(f"room {name} in {above}", " asked 1", " tells 1 0") for above, name in ("ab", "bc", "cd", "de")]
        self.refused("read", "room a", *[line for room in deep[:3] for line in room])
        self.refused(0, "room a", *[line for room in deep for line in room])
        for ask, told in ((0, 1), (41, 1), (1, 0), (1, 41)):
            self.refused(0, "room a", "room b in a", f" asked {ask}", f" tells {told} 0")

    def test_by_how_many_steps(self):
        lines = ("room a", " box x 7 0")
        self.refused("read", *lines, *[" set x 1"] * 12)
        self.refused(0, *lines, *[" set x 1"] * 13)
        block = (" for 1 upto 1", *["  set x 1"] * 9)
        self.refused("read", *lines, *block * 3)
        self.refused(0, *lines, *block * 3, " set x 1")
        self.refused(0, *lines, " for 1 upto 1", *["  set x 1"] * 13)
        self.refused(0, *lines, *[" set x 1"] * 3000)
        self.refused(2005, *lines, *[" set x 1"] * 2002, " set x")

    def test_by_how_deep_they_are(self):
        for many in (4, 5, 6, 150, 900):
            lines = ["room a", " box x 7 0", *[" " * (k + 1) + "if (x == 1)" for k in range(many)]]
            self.refused("read" if many == 4 else 0, *lines)
            if many > 4:
                self.refused(0, *lines, " " * (many + 1) + "set x 1", " set x 1")
            self.refused(len(lines) + 1, *lines, " " * (many + 2) + "set x 1")
            for blanks in (1, many):
                self.refused(0, *lines, " " * blanks + "else")
            fors = [line.replace("if (x == 1)", "for x upto 9") for line in lines]
            self.refused("read" if many == 4 else 0, *fors)

    def test_by_an_else_at_the_end(self):
        self.refused(0, "room a", " if (0 == 0)", " else")
        self.refused(0, "room a", "room b in a", " asked 1", " tells 1 0", " if (0 == 0)", " else")


class PrefixTest(TextCase):
    def test_told_by_the_lines_ahead_alone(self):
        """By chance: a refusal at a line is made of it and those ahead of it, and those ahead make none at a line."""
        found = set()
        for source, program in programs(range(48)):
            lines = program_text(program).split("\n")
            for k in range(12):
                spoilt = list(lines)
                at = source.randrange(len(spoilt))
                kind = source.randrange(5)
                if kind == 0:
                    spoilt[at] = " " + spoilt[at]
                elif kind == 1:
                    spoilt.insert(at, source.choice(lines))
                elif kind == 2:
                    del spoilt[at]
                elif kind == 3:
                    spoilt[at] = spoilt[at][1:]
                else:
                    other_at = source.randrange(len(spoilt))
                    spoilt[at], spoilt[other_at] = spoilt[other_at], spoilt[at]
                told = self.at("\n".join(spoilt))
                found.add(told if told in (0, "read") else "line")
                end = len(spoilt) if told in (0, "read") else told - 1
                for many in sorted({min(1, end), end, source.randint(0, end)} - {0}):
                    self.assertIn(self.at("\n".join(spoilt[:many])), (0, "read"))
                if end < len(spoilt):
                    self.assertEqual(self.at("\n".join(spoilt[:told])), told)
                if told == "read":
                    self.assertEqual(str(read_program("\n".join(spoilt))), "\n".join(spoilt))
        self.assertEqual(found, {0, "read", "line"})
