"""What several tests share: short ways to write terms, rooms and programs."""

from anystore.programs import Program, Room

ZERO = ("number", 0)
ONE = ("number", 1)
TWO = ("number", 2)
X = ("box", "x")
ASKED = ("asked",)
TOLD = ("told",)
X_IS_ZERO = ("is", X, ZERO)
SET = ("set", "x", ONE)
HEAR = ("hear", "x")
SAY = ("say", "x", TWO)
CALL = ("call", "x", "sub", X)

# Any things that are no names of rooms, as point 2 builds them.
NO_NAMES = (
    None, True, False, 0, 1, -1, 10 ** 29, "", " ", "A", "main ", "nobody", "asked", "abcdefghi",
    (), ("main",), [], ["main"], {}, {"main": 1}, [[("main", None)]], Room("main"), Room(None, body=None),
)


def first(body=(), *, name="main", boxes=(("x", 7, 0),), sayings=()):
    return Room(name, boxes=boxes, sayings=sayings, body=body)


def other(body=(), *, name="sub", above="main", boxes=(("x", 7, 0),), promise=None):
    return Room(name, above=above, boxes=boxes, ask=5, told=(6, X), promise=promise, body=body)


def alone(body, **more):
    """A program of a first room with this body."""
    return Program((first(body, **more),))


def pair(main=(), sub=()):
    """A program of a first room and one right beneath it, with these bodies."""
    return Program((first(main), other(sub)))
