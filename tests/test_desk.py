"""Points 2 and 26: a desk."""

import unittest

from anystore.bounds import beats_home, beats_of
from anystore.desk import Desk
from anystore.errors import NoEdition, NoName, NoRoom, NoRow, NotLet, NoText, NoWord, TooMany
from anystore.machines import Machine
from anystore.programs import Program
from tests.chance import programs
from tests.samples import CALL, HEAR, NO_NAMES, SET, TWO, X, alone, first, house, other, pair

SAY = ("say", "x", X)
TALK = alone((HEAR, SAY))
PAIR = pair((SET, CALL), (SAY,))
HEARD = "room main\n box x 7 0\n hear x\n say x x"


def load(desk, **made):
    for name, program in made.items():
        desk.say(f"load {name}\n{program}")
    return desk


class RowsTest(unittest.TestCase):
    def check(self, desk, *rows):
        for row, answer in rows:
            self.assertEqual(desk.say(row), answer, row)

    def test_load_and_names(self):
        desk = Desk()
        self.assertEqual(len(desk), 0)
        self.check(
            desk, ("names", "-"), (f"load b\n{TALK}", "ok"), ("names", "b"), (f"load a\n{PAIR}", "ok"), ("names", "a b"),
            (f"load abcdefgh\n{HEARD}", "ok"), ("names", "a abcdefgh b"))
        self.assertEqual(len(desk), 3)
        self.assertIs(type(desk.say("names")), str)

    def test_load_in_the_place_of_an_elder_one(self):
        desk = load(Desk(), a=TALK)
        self.check(desk, ("beat a 2", "-"), ("words a", "2 0"), (f"load a\n{PAIR}", "ok"), ("words a", "0 0 0 0 0 0"))
        self.assertEqual(len(desk), 1)

    def test_names_that_rows_begin_with(self):
        desk = load(Desk(), load=TALK, beat=TALK, names=TALK, drop=TALK)
        self.check(desk, ("names", "beat drop load names"), ("words names", "0 0"), ("drop drop", "ok"), ("beat beat 1", "-"))

    def test_beat(self):
        desk = load(Desk(), a=TALK)
        # home, hear, say
        self.check(
            desk, ("beat a 1", "-"), ("beat a 1 4", "-"), ("beat a 1", "main 5"), ("beat a 3 0", "main 1"),
            ("beat a 6 999999", f"main {1 + 999999 % 6}, main {1 + 999999 % 6}"), ("beat a 3", "main 0"))

    def test_beat_1000(self):
        desk = load(Desk(), a=TALK)
        self.assertEqual(desk.say("beat a 1000 2"), ", ".join(["main 3"] * 333))
        self.check(desk, ("words a", "1 1"), ("beat a 2", "main 0"))

    def test_beat_of_several_that_say_at_once(self):
        desk = load(Desk(), a=Program((first((SET,)), other((SAY,)), other((SAY,), name="two"))))
        for row in ("spoil a 2 1", "spoil a 3 4", "spoil a 6 1", "spoil a 7 5"):
            self.check(desk, (row, "ok"))
        self.check(desk, ("beat a 2", "sub 4, two 5"))

    def test_spoil_and_words(self):
        desk = load(Desk(), a=PAIR)
        self.check(
            desk, ("spoil a 0 999999", "ok"), ("spoil a 5 0", "ok"), ("spoil a 3 12", "ok"),
            ("words a", "999999 0 0 12 0 0"))

    def test_stand(self):
        desk = load(Desk(), a=PAIR)
        # main: home, set, ask, clear, again
        self.check(
            desk, ("stand a", "0 0"), ("beat a 3", "-"), ("stand a", "2 1"), ("spoil a 2 0", "ok"), ("stand a", "2 0"),
            ("spoil a 0 4", "ok"), ("stand a", "none"), ("spoil a 0 0", "ok"), ("spoil a 2 3", "ok"), ("stand a", "none"))
        self.check(load(Desk(), b=house(3)), ("stand b", "0 0 0 0 0 0 0 0"))

    def test_firsts(self):
        program = alone((SET,), sayings=(("below", X, TWO),))
        desk = load(Desk(), a=program, b=PAIR)
        self.check(desk, ("firsts a", "0"), ("firsts b", "0 0"))
        for turn in range(1, 12):
            self.check(desk, ("spoil a 0 0", "ok"), ("spoil a 1 3", "ok"), ("beat a 1", "-"), ("firsts a", str(turn)))

    def test_swap(self):
        desk = load(Desk(), a=PAIR, b=pair((SET,), (SET, SAY)))
        self.check(
            desk, ("swap a sub b", "ok"), ("beat a 4", "-"), ("beat a 1", "sub 1"), ("swap b main a", "ok"),
            ("swap a sub a", "ok"))
        self.assertEqual(desk.say("bounds a"), desk.say("bounds b"))

    def test_bounds(self):
        for source, program in programs(range(16)):
            desk = load(Desk(), a=program)
            numbers = [beats_home(program, room.name) for room in program.rooms()] + [beats_of(program)]
            self.check(desk, ("bounds a", " ".join(str(number) for number in numbers)))
        self.check(load(Desk(), a=alone(())), ("bounds a", "1 1"))

    def test_drop(self):
        desk = load(Desk(), a=PAIR, b=TALK)
        self.check(desk, ("drop a", "ok"), ("names", "b"), ("drop b", "ok"), ("names", "-"))
        self.assertEqual(len(desk), 0)

    def test_as_a_machine_does(self):
        for source, program in programs(range(40)):
            desk, machine = load(Desk(), a=program), Machine(program)
            for turn in range(4):
                many, given = source.randint(1, 30), source.choice(("", " 0", " 5", " 999999"))
                said = [one for beat in range(many) for one in machine.beat(int(given) if given else None)]
                self.check(
                    desk, (f"beat a {many}{given}", ", ".join(f"{room} {number}" for room, number in said) or "-"),
                    ("words a", " ".join(map(str, machine.words()))),
                    ("firsts a", " ".join(map(str, machine.refills()))),
                    ("stand a", " ".join(str(row[0]) for row in machine.stand()) if machine.stand() else "none"))
                at, word = source.randrange(len(machine)), source.randrange(1000000)
                machine.spoil(at, word)
                self.check(desk, (f"spoil a {at} {word}", "ok"))

    def test_by_places_and_by_names(self):
        self.assertEqual(Desk().say(row="names"), "-")

    def test_two_desks_share_nothing(self):
        one, two = load(Desk(), a=PAIR), load(Desk(), a=PAIR)
        one.say("beat a 3")
        one.say("drop a")
        self.assertEqual((len(one), len(two), two.say("words a")), (0, 1, "0 0 0 0 0 0"))


class DeskCase(unittest.TestCase):
    """A desk with three machines; behind each refusal it tells the same of all of them."""

    def setUp(self):
        self.desk = load(
            Desk(), a=PAIR, b=TALK, c=alone((SET,), sayings=(("below", X, TWO),)), d=house(3), w=alone((HEAR,), sayings=(
                ("below", X, TWO),)))
        for row in ("beat a 3", "beat b 2 5", "spoil c 0 0", "spoil c 1 3", "beat c 1", "beat d 20", "spoil a 1 999999"):
            self.desk.say(row)

    def told(self):
        rows = ["names"] + [f"{word} {name}" for name in "abcdw" for word in ("words", "stand", "firsts", "bounds")]
        return [self.desk.say(row) for row in rows]

    def refused(self, error, row):
        ahead = self.told()
        with self.assertRaises(error) as caught:
            self.desk.say(row)
        self.assertIs(type(caught.exception), error)
        self.assertEqual(self.told(), ahead)
        self.assertEqual(len(self.desk), 5)
        return caught.exception


class NoRowTest(DeskCase):
    def test_no_text(self):
        for thing in (None, True, 0, 3, (), ("names",), [], ["names"], {}, {"names": 1}, TALK, self.desk, Machine(TALK)):
            self.refused(NoRow, thing)

    def test_no_row(self):
        for row in (
                "", " ", "\n", "name", "Names", "NAMES", "load", "help", "words", "stand", "firsts", "bounds", "drop",
                "beat", "spoil", "swap", "words a b", "stand a b", "firsts a b", "bounds a b", "drop a b", "names a",
                "beat a", "beat a 1 2 3", "spoil a", "spoil a 1", "spoil a 1 2 3", "swap a", "swap a sub",
                "swap a sub b c", "load a", "load", "words,a", "wordsa", "ok"):
            with self.subTest(row=row):
                self.refused(NoRow, row)

    def test_blanks(self):
        for row in (
                " names", "names ", "words  a", "words a ", " words a", "beat  a 1", "beat a  1", "beat a 1 ",
                "beat a 1  2", "spoil a 1  2", "words\ta", "words a\t", "swap a sub  b", f"load  a\n{TALK}",
                f"load a \n{TALK}", f" load a\n{TALK}", f"load a  \n{TALK}"):
            with self.subTest(row=row):
                self.refused(NoRow, row)

    def test_line_ends(self):
        for row in (
                "names\n", "words a\n", "\nwords a", "words\na", "beat a 1\n", "beat a 1\n2", "drop a\n", "swap a sub b\n",
                "spoil a 1 2\n", "names\nnames", f"load\na\n{TALK}", f"\nload a\n{TALK}", f"words a\n{TALK}"):
            with self.subTest(row=row):
                self.refused(NoRow, row)

    def test_names_that_are_none(self):
        for name in ("A", "a1", "abcdefghi", "asked", "told", "not", "and", "or", "-", "a,", "1", "a-b"):
            for row in (
                    f"load {name}\n{TALK}", f"words {name}", f"stand {name}", f"firsts {name}", f"bounds {name}",
                    f"drop {name}", f"beat {name} 1", f"beat {name} 1 1", f"spoil {name} 0 0", f"swap {name} sub a",
                    f"swap a {name} a", f"swap a sub {name}"):
                with self.subTest(row=row):
                    self.refused(NoRow, row)

    def test_counts_and_numbers(self):
        for many in ("0", "1001", "999999", "1000000", "01", "001", "-1", "+1", "1.0", "a", "1e3", "1_0", "x", "-"):
            self.refused(NoRow, f"beat a {many}")
            self.refused(NoRow, f"beat a {many} 5")
        for number in ("00", "01", "1000000", "0000001", "-1", "+1", "-0", "1.0", "a", "", "1_0", "0x1"):
            self.refused(NoRow, f"beat a 1 {number}")
            self.refused(NoRow, f"spoil a {number} 0")
            self.refused(NoRow, f"spoil a 0 {number}")

    def test_ahead_of_all_others(self):
        self.refused(NoRow, "load A\nno text")
        self.refused(NoRow, "words Z")
        self.refused(NoRow, "spoil z 0 1000000")
        self.refused(NoRow, "beat z 0")
        self.refused(NoRow, "swap z sub Z")


class RefusedTest(DeskCase):
    def test_no_text(self):
        for text, at in (
                ("", 1), ("room", 1), ("room a\n", 2), (" room a", 1), ("room a\n box x 7 0\n set x", 3),
                ("room a\n box x 7 7", 0), ("room a\nroom b in a", 0), (f"{TALK}\n", 5)):
            for name in ("a", "z"):
                self.assertEqual(self.refused(NoText, f"load {name}\n{text}").at, at, text)

    def test_no_name(self):
        for row, name in (
                ("words z", "z"), ("stand z", "z"), ("firsts z", "z"), ("bounds z", "z"), ("drop z", "z"),
                ("beat z 1", "z"), ("beat z 1000 999999", "z"), ("spoil z 0 0", "z"), ("spoil z 999999 0", "z"),
                ("swap z sub a", "z"), ("swap a sub z", "z"), ("swap z sub y", "z"), ("swap y nobody z", "y"),
                ("swap a nobody z", "z"), ("swap a nobody b", "nobody"), ("swap a sub b", "sub"), ("words names", "names")):
            self.assertEqual(self.refused(NoName, row).name, name)

    def test_no_word(self):
        refusal = self.refused(NoWord, "spoil a 6 5")
        self.assertEqual((refusal.at, refusal.word), (6, 5))
        self.refused(NoWord, "spoil b 999999 0")

    def test_no_room_of_the_machine(self):
        # The room stands in OTHER's program, but not in the machine's own.
        self.assertEqual(self.refused(NoRoom, "swap b sub a").name, "sub")

    def test_no_edition_and_the_looker(self):
        self.assertEqual(self.refused(NoEdition, "swap a main c").why, "sayings")
        self.assertEqual(self.refused(NotLet, "swap c main w").run[0], "main")
        self.assertEqual(self.refused(TooMany, "swap d a d").room, "a")

    def test_dropped(self):
        self.desk.say("drop a")
        with self.assertRaises(NoName) as caught:
            self.desk.say("words a")
        self.assertEqual(caught.exception.name, "a")
        load(self.desk, a=TALK)
        self.assertEqual(self.desk.say("words a"), "0 0")

    def test_any_things(self):
        for thing in NO_NAMES:
            self.refused(NoRow, thing)
