"""What several tests share: short ways to write terms, rooms and programs."""

from anystore.programs import Program, Room

ZERO = ("number", 0)
ONE = ("number", 1)
TWO = ("number", 2)
X = ("box", "x")
ASKED = ("asked",)
TOLD = ("told",)
X_IS_ZERO = ("is", X, ZERO)
SET = ("set", "x", ONE)
HEAR = ("hear", "x")
SAY = ("say", "x", TWO)
CALL = ("call", "x", "sub", X)

# Any things that are no names of rooms, as point 2 builds them.
NO_NAMES = (
    None, True, False, 0, 1, -1, 10 ** 29, "", " ", "A", "main ", "nobody", "asked", "abcdefghi",
    (), ("main",), [], ["main"], {}, {"main": 1}, [[("main", None)]], Room("main"), Room(None, body=None),
)


def first(body=(), *, name="main", boxes=(("x", 7, 0),), sayings=()):
    return Room(name, boxes=boxes, sayings=sayings, body=body)


def other(body=(), *, name="sub", above="main", boxes=(("x", 7, 0),), promise=None):
    return Room(name, above=above, boxes=boxes, ask=5, told=(6, X), promise=promise, body=body)


def alone(body, **more):
    """A program of a first room with this body."""
    return Program((first(body, **more),))


def pair(main=(), sub=()):
    """A program of a first room and one right beneath it, with these bodies."""
    return Program((first(main), other(sub)))


# By the rooms' names those above them: four floors.
HOUSE = {"a": "", "b": "a", "c": "b", "d": "c", "e": "a", "f": "b", "g": "c", "h": "a"}


def house_body(beneath):
    """Thirty steps: five times an if with a set and a for that hears and says, then a call of one beneath, or a set."""
    body = []
    for k, box in enumerate("wxyzw"):
        turns = ("for", ("plus", ("box", box), ("number", k)), 3, (("hear", "x"), ("say", "y", ("box", "x"))))
        more = ("set", box, ("plus", ("box", box), ONE))
        body.append(("if", ("below", ("box", box), ("number", 9)), (more, turns), ()))
        if beneath and k % 2 == 0:
            body.append(("call", box, beneath[k % len(beneath)], ("box", "x")))
        else:
            body.append(("set", box, ("less", ("box", box), TWO)))
    return tuple(body)


def house(most):
    """Eight rooms, four floors deep, each with four boxes and thirty steps; one saying wants x to be at most this."""
    boxes = tuple((box, 20, 0) for box in "wxyz")
    sayings = (("not", ("below", ("number", most), ("box", "x"))), ("below", ("box", "w"), ("number", 20)))
    rooms = []
    for name, above in HOUSE.items():
        body = house_body([other for other in HOUSE if HOUSE[other] == name])
        if above == "":
            rooms.append(Room(name, boxes=boxes, sayings=sayings, body=body))
        else:
            rooms.append(Room(
                name, above=above, boxes=boxes, sayings=sayings, ask=20, told=(20, ("box", "w")), body=body))
    return Program(tuple(rooms))
