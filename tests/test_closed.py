"""Points 2 and 20: closures."""

import copy
import unittest

from anystore.closed import closes, closure
from anystore.errors import NoRoom, TooMany
from anystore.looker import stands_many
from anystore.places import places
from anystore.programs import Program, Room
from tests.chance import small_programs
from tests.letby import let_programs
from tests.papers import Paper
from tests.runs import Runs, fillings
from tests.samples import (
    ASKED, CALL, HEAR, NO_NAMES, ONE, SAY, SET, TOLD, TWO, X, X_IS_ZERO, ZERO, alone, first, other, pair)


def number(n):
    return ("number", n)


def whole(program, name):
    """All fillings at all places at which any may stand."""
    paper = Paper(program, name)
    rows = [
        (boxes, asked, counts) for boxes in fillings(paper.bounds) for asked in range(paper.ask)
        for counts in fillings([most + 1 for most in paper.mosts])]
    return [[] if place[0] in ("home", "clear", "again", "told") else list(rows) for place in paper.places]


class ClosureTest(unittest.TestCase):
    def test_the_least(self):
        self.assertEqual(closure(Program((Room("a"),)), "a"), [[]])
        self.assertEqual(closure(alone(()), "main"), [[]])
        program = Program((Room("a"), Room("b", above="a", ask=2, told=(1, ZERO))))
        told = closure(program, "b")
        self.assertEqual([sorted(rows) for rows in told], [[], [((), 0, ()), ((), 1, ())], []])

    def test_a_told_one(self):
        program = pair((("set", "x", ("rest", X, TWO)), CALL), ())
        told = closure(program, "main")
        zero_one = [((0,), 0, ()), ((1,), 0, ())]
        # home, set, ask, clear, again
        self.assertEqual(sorted(told[1]), [((x,), 0, ()) for x in range(7)])
        self.assertEqual(sorted(told[2]), zero_one)
        self.assertEqual([told[0], told[3], told[4]], [[], [], []])

    def test_drawn_rooms(self):
        none, some = 0, 0
        for source, program in small_programs(range(220)):
            for room in program.rooms():
                runs = Runs(program, room.name)
                if runs.many() > 3000 or stands_many(program, room.name) > 5000:
                    continue
                told = closure(program, room.name)
                bad = [run for run, end in runs.all().items() if runs.breaks(run, end)]
                self.assertEqual(told is None, bad != [])
                if told is None:
                    none += 1
                    continue
                some += 1
                self.assertEqual(len(told), len(places(program, room.name)))
                self.assertEqual({type(rows) for rows in told}, {list})
                self.assertTrue(all(type(row) is tuple for rows in told for row in rows))
                self.assertIs(closes(program, room.name, told), True)
                self.assertTrue(Paper(program, room.name).closes(told))
        self.assertGreater(min(none, some), 50)

    def test_told_anew_and_alike(self):
        program = pair((HEAR, CALL), (SAY,))
        one, two = closure(program, "main"), closure(program, "main")
        self.assertEqual(one, two)
        one[1].clear()
        one.append([])
        self.assertEqual(closure(program, "main"), two)
        two[2].append(None)
        self.assertTrue(closes(program, "main", closure(program, "main")))

    def test_none_by_a_saying_and_by_a_promise(self):
        self.assertIsNone(closure(alone((HEAR,), sayings=(X_IS_ZERO,)), "main"))
        sub = Room("sub", above="main", boxes=(("x", 7, 1),), sayings=(("below", X, TWO),), ask=5, told=(6, X), body=(HEAR,))
        program = Program((first((CALL,)), sub))
        self.assertIsNone(closure(program, "sub"))
        self.assertIsNotNone(closure(program, "main"))
        program = Program((first((CALL,), sayings=(("below", X, TWO),)), other((), promise=("below", TOLD, TWO))))
        # sub breaks its promise; main relies on it, and keeps its saying.
        self.assertIsNone(closure(program, "sub"))
        self.assertTrue(closes(program, "main", closure(program, "main")))

    def test_no_answer_leads_nowhere(self):
        program = Program((first((CALL, HEAR), sayings=(X_IS_ZERO,)), other(promise=("is", TOLD, number(9)))))
        self.assertEqual(closure(program, "main"), [[], [((0,), 0, ())], [], [], []])

    def test_too_many_by_its_own_stands_alone(self):
        boxes = tuple((box, 40, 0) for box in "abx")
        program = Program((first((HEAR,), sayings=(X_IS_ZERO,)), other(), Room(
            "two", above="main", boxes=boxes, ask=2, told=(1, ZERO))))
        self.assertIsNone(closure(program, "main"))
        self.assertIsNotNone(closure(program, "sub"))
        with self.assertRaises(TooMany) as caught:
            closure(program, "two")
        self.assertEqual((caught.exception.room, caught.exception.many), ("two", 128000))

    def test_5000_and_more(self):
        boxes = (("x", 25, 0), ("y", 20, 0))
        program = alone((HEAR,) * 10, boxes=boxes)
        self.assertEqual(sum(len(rows) for rows in closure(program, "main")), 5000)
        with self.assertRaises(TooMany) as caught:
            closure(alone((HEAR,) * 11, boxes=boxes), "main")
        self.assertEqual((caught.exception.room, caught.exception.many), ("main", 5500))

    def test_no_room_ahead_of_all(self):
        boxes = tuple((box, 40, 0) for box in "abx")
        program = alone((SET,), boxes=boxes)
        for name in (*NO_NAMES[:12], "sub", [], ["main"], {}, program, Room("main")):
            with self.assertRaises(NoRoom) as caught:
                closure(program, name)
            self.assertIs(caught.exception.name, name)
            for thing in (None, [], [[], []]):
                with self.assertRaises(NoRoom) as caught:
                    closes(program, name, thing)
                self.assertIs(caught.exception.name, name)

    def test_by_places_and_by_names(self):
        program = pair((HEAR, CALL), (SAY,))
        told = closure(name="sub", program=program)
        self.assertEqual(told, closure(program, "sub"))
        self.assertIs(closes(thing=told, name="sub", program=program), True)


class ClosesTest(unittest.TestCase):
    def test_tuples_to_which_nothing_leads(self):
        inner = ("for", X, 2, (SET,))
        for program in (
                alone((HEAR, ("for", X, 3, (SAY, inner)), SET), boxes=(("x", 3, 0),)), pair((CALL, SET), (SAY,)),
                Program((first((), boxes=()), other((SET, inner))))):
            for room in program.rooms():
                self.assertIs(closes(program, room.name, whole(program, room.name)), True)
                if room.body:
                    self.assertNotEqual(whole(program, room.name), closure(program, room.name))

    def test_one_more_that_leads_into_it(self):
        program = alone((("set", "x", ZERO), ("set", "x", ONE), HEAR))
        told = closure(program, "main")
        self.assertEqual(told[2], [((0,), 0, ())])
        self.assertTrue(closes(program, "main", [[], told[1], told[2] + [((5,), 0, ())], told[3]]))
        # What it leads to has to stand there, too.
        more = [[], told[1], told[2], told[3] + [((5,), 0, ())]]
        self.assertTrue(closes(program, "main", more))
        held = alone((("set", "x", ZERO), ("set", "x", ("plus", X, ONE)), HEAR))
        told = closure(held, "main")
        self.assertFalse(closes(held, "main", [[], told[1], told[2] + [((5,), 0, ())], told[3]]))
        self.assertTrue(closes(held, "main", [[], told[1], told[2] + [((5,), 0, ())], told[3] + [((6,), 0, ())]]))

    def test_doubled_and_in_another_order(self):
        program = pair((HEAR, CALL), (SAY,))
        for name in ("main", "sub"):
            told = closure(program, name)
            self.assertTrue(closes(program, name, [rows + rows for rows in told]))
            self.assertTrue(closes(program, name, [rows[::-1] for rows in told]))

    def test_a_tuple_taken_out(self):
        for source, program in let_programs(range(60)):
            for room in program.rooms():
                told = closure(program, room.name)
                spots = [(place, at) for place, rows in enumerate(told) for at in range(len(rows))]
                for place, at in source.sample(spots, min(len(spots), 15)):
                    less = [list(rows) for rows in told]
                    del less[place][at]
                    # All that is told is come to, so none can be spared.
                    self.assertIs(closes(program, room.name, less), False)

    def test_parts_put_otherwise(self):
        found = {True: 0, False: 0}
        for source, program in small_programs(range(150)):
            for room in program.rooms():
                if stands_many(program, room.name) > 500:
                    continue
                paper = Paper(program, room.name)
                told = closure(program, room.name)
                for turn in range(12):
                    thing = self.otherwise(source, paper, whole(program, room.name) if told is None else told)
                    kept = copy.deepcopy(thing)
                    answer = closes(program, room.name, thing)
                    self.assertIs(answer, paper.closes(thing))
                    self.assertEqual(thing, kept)
                    found[answer] += 1
        self.assertGreater(min(found.values()), 100)

    def otherwise(self, source, paper, told):
        thing = [list(rows) for rows in told]
        spots = [(place, at) for place, rows in enumerate(thing) for at in range(len(rows))]
        if not spots:
            return thing if source.random() < 0.5 else thing + [[]]
        place, at = source.choice(spots)
        row = thing[place][at]
        kind = source.choice(("out", "in", "to", "double", "number", "exchange", "more"))
        if kind == "out":
            del thing[place][at]
        elif kind == "to":
            thing[source.randrange(len(thing))].append(row)
        elif kind == "double":
            thing[place].insert(source.randrange(len(thing[place])), row)
        elif kind == "exchange":
            there = source.randrange(len(thing))
            thing[place], thing[there] = thing[there], thing[place]
        elif kind == "more":
            thing[place].append((
                tuple(source.randrange(bound) for bound in paper.bounds), source.randrange(paper.ask),
                tuple(source.randrange(most + 1) for most in paper.mosts)))
        else:
            boxes, asked, counts = row
            part = source.randrange(3)
            strange = source.choice((0, 1, 2, 3, 4, -1, True, False, None, "0", (0,)))
            if part == 0 and boxes:
                boxes = (*boxes[1:], strange)
            elif part == 1:
                asked = strange
            elif counts:
                counts = (*counts[:-1], strange)
            if kind == "number":
                thing[place][at] = (boxes, asked, counts)
            else:
                thing[place].append((boxes, asked, counts))
        return thing

    def test_forms(self):
        program = pair((("for", X, 2, (HEAR,)), CALL), (SAY,))
        told = closure(program, "main")
        self.assertTrue(closes(program, "main", told))
        # home, for, check, hear, ask, clear, again
        row = told[2][0]
        self.assertEqual(len(told), 7)
        for place in (0, 5, 6):
            self.assertFalse(closes(program, "main", told[:place] + [[row]] + told[place + 1:]))
        for wrong in (
                list(row), (list(row[0]), *row[1:]), (*row[:2], list(row[2])), row[:2], row + (0,), row[0], None, 0, "",
                ((7,), 0, (0,)), ((-1,), 0, (0,)), ((True,), 0, (0,)), ((1,), 1, (0,)), ((1,), -1, (0,)),
                ((1,), False, (0,)), ((1,), None, (0,)), ((1,), 0, (3,)), ((1,), 0, (-1,)), ((1,), 0, (False,)),
                ((1,), 0, ()), ((1,), 0, (0, 0)), ((), 0, (0,)), ((1, 1), 0, (0,)), (1, 0, 0), ({}, 0, (0,)),
                ((1,), 0, {}), (([],), 0, (0,)), ((1,), [], (0,)), ((1,), 0, ({},))):
            for place in (1, 2, 3, 4):
                with self.subTest(wrong=wrong, place=place):
                    more = told[:place] + [told[place] + [wrong]] + told[place + 1:]
                    self.assertIs(closes(program, "main", more), False)

    def test_tell_and_told(self):
        program = pair((CALL,), (SAY,))
        told = closure(program, "sub")
        # home, say, tell, told
        self.assertTrue(closes(program, "sub", told))
        self.assertFalse(closes(program, "sub", told[:3] + [[told[2][0]]]))
        self.assertFalse(closes(program, "sub", [[told[2][0]], *told[1:]]))
        self.assertTrue(closes(program, "sub", told[:2] + [told[2] + [((6,), 4, ())], []]))

    def test_sayings_and_promise_at_tell(self):
        sub = Room(
            "sub", above="main", boxes=(("x", 7, 0),), sayings=(("below", X, number(3)),), ask=5, told=(6, ASKED),
            promise=("below", TOLD, number(4)), body=(("set", "x", ZERO), ("if", ("below", ASKED, number(4)), (), (HEAR,))))
        program = Program((first((CALL,)), sub))
        paper = Paper(program, "sub")
        self.assertIsNone(closure(program, "sub"))
        # home, set, if, hear, tell, told
        rows = {
            1: [((x,), asked, ()) for x in range(3) for asked in range(5)], 2: [((0,), asked, ()) for asked in range(5)],
            3: [((0,), 4, ())], 4: [((0,), asked, ()) for asked in range(4)]}
        thing = [rows.get(place, []) for place in range(6)]
        for more in ([], [((x,), 4, ()) for x in range(7)], [((3,), 0, ())], [((2,), 3, ())]):
            there = thing[:4] + [thing[4] + more] + thing[5:]
            self.assertIs(closes(program, "sub", there), paper.closes(there))
            self.assertFalse(closes(program, "sub", there))

    def test_sayings_where_home_is_come_to(self):
        program = alone((("set", "x", ("over", X, TWO)),), sayings=(("below", X, TWO),))
        base = [((0,), 0, ()), ((1,), 0, ())]
        self.assertTrue(closes(program, "main", [[], base]))
        self.assertTrue(closes(program, "main", [[], base + [((3,), 0, ())]]))
        self.assertFalse(closes(program, "main", [[], base + [((4,), 0, ())]]))
        self.assertFalse(closes(program, "main", [[], base[1:]]))
        self.assertFalse(closes(program, "main", [[], []]))

    def test_fors(self):
        # home, for, check, set
        program = alone((("for", ONE, 2, (SET,)),), boxes=(("x", 2, 0),))
        told = closure(program, "main")
        self.assertEqual([sorted(rows) for rows in told], [
            [], [((0,), 0, (0,)), ((1,), 0, (0,))],
            [((0,), 0, (1,)), ((1,), 0, (0,)), ((1,), 0, (1,))], [((0,), 0, (0,)), ((1,), 0, (0,))]])
        # A count of 2 at the check leads inside with 1, and so on.
        two = [told[0], told[1], told[2] + [((1,), 0, (2,))], told[3]]
        self.assertFalse(closes(program, "main", two))
        two[3] = told[3] + [((1,), 0, (1,))]
        self.assertTrue(closes(program, "main", two))
        # Begun, a for has its own count, whatever the count was.
        self.assertTrue(closes(program, "main", [told[0], told[1] + [((0,), 0, (2,))], told[2], told[3]]))

    def test_any_things(self):
        program = pair((HEAR, CALL), (SAY,))
        told = closure(program, "main")
        for thing in (
                None, True, False, 0, 5, "", "closure", (), [], {}, {"main": told}, tuple(told), [told], told + [[]],
                told[:-1], [tuple(rows) for rows in told], [{} for rows in told], [None for rows in told], "abcde",
                ["", "", "", "", ""], [[None], *told[1:]], program, program.rooms(), closure(program, "sub"),
                [[] for rows in told], [dict.fromkeys(rows) for rows in told], [[[]] for rows in told]):
            with self.subTest(thing=thing):
                self.assertIs(closes(program, "main", thing), False)

    def test_an_empty_first_room(self):
        program = Program((first((), sayings=(X_IS_ZERO,)),))
        self.assertTrue(closes(program, "main", [[]]))
        self.assertFalse(closes(program, "main", [[((0,), 0, ())]]))
        self.assertFalse(closes(program, "main", []))

    def test_of_rooms_that_the_looker_refuses(self):
        boxes = tuple((box, 40, 0) for box in "abcd")
        zeros = tuple(("is", ("box", box), ZERO) for box in "abcd")
        program = alone((("set", "a", ("box", "b")),), boxes=boxes, sayings=zeros)
        with self.assertRaises(TooMany):
            closure(program, "main")
        self.assertTrue(closes(program, "main", [[], [((0, 0, 0, 0), 0, ())]]))
        self.assertTrue(closes(program, "main", [[], [((0, 0, 0, 0), 0, ()), ((9, 0, 0, 0), 0, ())]]))
        self.assertFalse(closes(program, "main", [[], [((0, 0, 0, 0), 0, ()), ((0, 1, 0, 0), 0, ())]]))
        self.assertFalse(closes(program, "main", [[], []]))
        free = alone((("set", "a", ("box", "b")),), boxes=boxes)
        self.assertFalse(closes(free, "main", [[], [((0, 0, 0, 0), 0, ())]]))

    def test_just_where_no_run_breaks(self):
        # No paper closes a room of which some run breaks: the largest of those without a break is tried.
        for source, program in small_programs(range(100)):
            for room in program.rooms():
                if stands_many(program, room.name) > 300 or closure(program, room.name) is not None:
                    continue
                thing = whole(program, room.name)
                paper = Paper(program, room.name)
                while True:
                    kept = [set(rows) for rows in thing]
                    fewer = [[row for row in rows if paper.leads_on(kept, at, row)] for at, rows in enumerate(thing)]
                    if fewer == thing:
                        break
                    thing = fewer
                self.assertIs(closes(program, room.name, thing), False)
