"""Rooms and programs (points 6 and 7)."""

from anystore.errors import NoProgram, NoRoom
from anystore.forms import all_steps, is_body, is_expression, is_name, is_test, is_within
from anystore.places import Plan
from anystore.terms import holds
from anystore.writing import program_text

MOST_ROOMS = 8
MOST_FLOORS = 4
MOST_BOXES = 4
MOST_SAYINGS = 4
MOST_BOUND = 40


class Room:
    """A room as it is handed in; whether it is a right one is told by the program made of it."""

    def __init__(self, name, *, above="", boxes=(), sayings=(), ask=None, told=None, promise=None, body=()):
        self.name = name
        self.above = above
        self.boxes = boxes
        self.sayings = sayings
        self.ask = ask
        self.told = told
        self.promise = promise
        self.body = body

    def __eq__(self, other):
        return (
            isinstance(other, Room) and self.name == other.name and self.above == other.above
            and self.boxes == other.boxes and self.sayings == other.sayings and self.ask == other.ask
            and self.told == other.told and self.promise == other.promise and self.body == other.body)

    def __len__(self):
        return len(all_steps(self.body))

    def __repr__(self):
        return f"Room({self.name})"


class Program:
    """A tree of rooms, the first one above all others."""

    def __init__(self, rooms):
        if not are_rooms(rooms):
            raise NoProgram(-1, "rooms")
        for at in range(len(rooms)):
            why = fault_of(rooms, at)
            if why != "":
                raise NoProgram(at, why)
        self.held = rooms
        self.drawn = ()

    def rooms(self):
        return self.held

    def room_of(self, name):
        for room in self.held:
            if room.name == name:
                return room
        raise NoRoom(name)

    def beneath(self, name):
        """The names of the rooms right beneath the one of this name, in order."""
        above = self.room_of(name)
        return [room.name for room in self.held if room.above == above.name]

    def plans(self):
        """For each room its plan; made once, when the program is first done, as it never changes."""
        if len(self.drawn) == 0:
            self.drawn = tuple([Plan(self.held, at) for at in range(len(self.held))])
        return self.drawn

    def plan_of(self, name):
        for plan in self.plans():
            if plan.room.name == name:
                return plan
        raise NoRoom(name)

    def __eq__(self, other):
        return isinstance(other, Program) and self.held == other.held

    def __len__(self):
        return len(self.held)

    def __str__(self):
        return str(program_text(self))

    def __repr__(self):
        return f"Program({len(self.held)})"


def are_rooms(things):
    if not isinstance(things, tuple) or not 1 <= len(things) <= MOST_ROOMS:
        return False
    return all([isinstance(thing, Room) for thing in things])


def fault_of(rooms, at):
    """The first word by which this room isn't as told, "" of a right one; all rooms ahead of it are right."""
    room = rooms[at]
    if not name_fits(rooms, at):
        return "name"
    if not above_fits(rooms, at):
        return "above"
    if not boxes_fit(room.boxes):
        return "boxes"
    if not sayings_fit(room):
        return "sayings"
    if at == 0:
        return first_fault(room) or body_fault(rooms, at, ())
    return other_fault(room) or body_fault(rooms, at, ("asked",))


def name_fits(rooms, at):
    name = rooms[at].name
    return is_name(name) and name not in [room.name for room in rooms[:at]]


def above_fits(rooms, at):
    above = rooms[at].above
    if at == 0:
        return above == ""
    return above in [room.name for room in rooms[:at]] and floor_of(rooms, at) <= MOST_FLOORS


def floor_of(rooms, at):
    """How many floors deep a room stands, the first one's counted."""
    floor = 1
    above = rooms[at].above
    # Each room stands behind the one above it, so one walk back meets all of them.
    for room in reversed(rooms[:at]):
        if room.name == above:
            above = room.above
            floor += 1
    return floor


def boxes_fit(boxes):
    if not isinstance(boxes, tuple) or len(boxes) > MOST_BOXES:
        return False
    if not all([box_fits(box) for box in boxes]):
        return False
    names = [box[0] for box in boxes]
    return names == sorted(set(names))


def box_fits(box):
    if not isinstance(box, tuple) or len(box) != 3:
        return False
    name, bound, first = box
    return is_name(name) and is_within(bound, 1, MOST_BOUND) and is_within(first, 0, bound - 1)


def sayings_fit(room):
    if not isinstance(room.sayings, tuple) or len(room.sayings) > MOST_SAYINGS:
        return False
    firsts = {name: first for name, bound, first in room.boxes}
    if not all([is_test(saying, list(firsts), ()) for saying in room.sayings]):
        return False
    return all([holds(saying, firsts) for saying in room.sayings])


def first_fault(room):
    """What the first room has that it may not have."""
    if room.ask is not None:
        return "ask"
    if room.told is not None:
        return "told"
    if room.promise is not None:
        return "promise"
    return ""


def other_fault(room):
    """The first of ask, told and promise that isn't as told of rooms but the first."""
    if not is_within(room.ask, 1, MOST_BOUND):
        return "ask"
    if not told_fits(room):
        return "told"
    if room.promise is not None and not is_test(room.promise, (), ("asked", "told")):
        return "promise"
    return ""


def told_fits(room):
    if not isinstance(room.told, tuple) or len(room.told) != 2:
        return False
    bound, expression = room.told
    return is_within(bound, 1, MOST_BOUND) and is_expression(expression, box_names(room), ("asked",))


def body_fault(rooms, at, words):
    room = rooms[at]
    beneath = [other.name for other in rooms if other.above == room.name]
    if is_body(room.body, box_names(room), words, beneath):
        return ""
    return "body"


def box_names(room):
    return [name for name, bound, first in room.boxes]
