"""Programs that the looker lets by, each by its seed, the same each time."""

from anystore.errors import TooMany
from anystore.looker import looked
from anystore.programs import Program, Room
from tests.chance import small_programs


def weaker(program, name):
    """The same program, of which this room says and promises less: no saying any more or, if it has none, no promise."""
    rooms = []
    for room in program.rooms():
        if room.name == name:
            sayings, promise = ((), room.promise) if room.sayings else ((), None)
            room = Room(
                name, above=room.above, boxes=room.boxes, sayings=sayings, ask=room.ask, told=room.told,
                promise=promise, body=room.body)
        rooms.append(room)
    return Program(tuple(rooms))


def let_by(program):
    """A program that the looker lets by, such as this one but for sayings and promises; None where it can't tell."""
    try:
        broken = looked(program)
    except TooMany:
        return None
    return program if broken is None else let_by(weaker(program, broken[0]))


def let_programs(seeds, *, most=5):
    """Those of small_programs that the looker lets by, or would with fewer sayings and promises."""
    for source, program in small_programs(seeds, most=most):
        program = let_by(program)
        if program is not None:
            yield source, program
