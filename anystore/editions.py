"""Editions of a room (point 15)."""

from anystore.errors import NoEdition, NoProgram, NotLet
from anystore.forms import is_whole
from anystore.looker import looked
from anystore.programs import Program


def swapped(program, room):
    """The program with this room in the place of its elder edition."""
    elder = program.room_of(room.name)
    why = unlike(elder, room)
    if why != "":
        raise NoEdition(why)
    edition = put_in(program, room)
    run = looked(edition)
    if run is not None:
        raise NotLet(run)
    return edition


def unlike(elder, room):
    """The first word in which a room is unlike its elder edition, "" where it is alike in all but its text."""
    looks = (
        ("above", alike(elder.above, room.above)), ("boxes", alike(elder.boxes, room.boxes)),
        ("sayings", alike(elder.sayings, room.sayings)), ("ask", alike(elder.ask, room.ask)),
        ("told", has_bound_of(elder.told, room.told)), ("promise", alike(elder.promise, room.promise)))
    for why, is_alike in looks:
        if not is_alike:
            return why
    return ""


def alike(right, thing):
    """Whether any thing is the same as a right one, part by part; == alone takes True for 1."""
    if isinstance(right, tuple):
        return isinstance(thing, tuple) and len(thing) == len(right) and all(
            [alike(part, other) for part, other in zip(right, thing)])
    if is_whole(right):
        return is_whole(thing) and thing == right
    return thing == right


def has_bound_of(told, thing):
    """Whether any thing is a told with the bound of this one, whatever its expression."""
    if told is None:
        return thing is None
    return isinstance(thing, tuple) and len(thing) == 2 and alike(told[0], thing[0])


def put_in(program, room):
    rooms = [room if elder.name == room.name else elder for elder in program.rooms()]
    try:
        return Program(tuple(rooms))
    except NoProgram:
        raise NoEdition("body") from None
