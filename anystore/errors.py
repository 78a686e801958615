"""The refusals. Each stands straight under a class of Python's own, none under another one."""


class NoText(ValueError):
    """A thing that is no program's text; at is the number of its first wrong line, or 0."""

    def __init__(self, at):
        ValueError.__init__(self, f"no text of a program, at line {at}")
        self.at = at


class NoProgram(ValueError):
    """Things that make no program; room is the number of the first wrong room, or -1."""

    def __init__(self, room, why):
        ValueError.__init__(self, f"no program: room {room}, {why}")
        self.room = room
        self.why = why


class NoRoom(LookupError):
    """A name that no room of the program has."""

    def __init__(self, name):
        LookupError.__init__(self, f"no room of the program is called {name!r}")
        self.name = name


class NoStand(ValueError):
    """A thing that is no stand of the program."""


class NoWord(IndexError):
    """A place at which a machine has no word, or a thing that is no word."""

    def __init__(self, at, word):
        IndexError.__init__(self, f"no place of a word, or no word: {at!r}, {word!r}")
        self.at = at
        self.word = word


class NoEdition(ValueError):
    """A room that is no edition of the program's room of that name."""

    def __init__(self, why):
        ValueError.__init__(self, f"no edition: {why}")
        self.why = why


class NotLet(RuntimeError):
    """A program that the looker does not let by; run is what the looker tells."""

    def __init__(self, run):
        RuntimeError.__init__(self, f"not let by: {run!r}")
        self.run = run


class NoRun(ValueError):
    """A thing that is no run of the room."""


class TooMany(OverflowError):
    """A room with more stands than the looker goes through."""

    def __init__(self, room, many):
        OverflowError.__init__(self, f"room {room} has {many} stands")
        self.room = room
        self.many = many


class NoWay(ValueError):
    """Things that make no way."""

    def __init__(self, why):
        ValueError.__init__(self, f"no way: {why}")
        self.why = why


class NoNumber(ValueError):
    """A thing that is no word of the way."""

    def __init__(self, word):
        ValueError.__init__(self, f"no word of the way: {word!r}")
        self.word = word


class TooLost(RuntimeError):
    """A beat by which too many would be lost one behind another."""

    def __init__(self, side):
        RuntimeError.__init__(self, f"too many lost: {side}")
        self.side = side


class NoStore(ValueError):
    """A thing that is no store of the way."""


class NoYard(ValueError):
    """Things that make no yard."""

    def __init__(self, why):
        ValueError.__init__(self, f"no yard: {why}")
        self.why = why


class NoRow(ValueError):
    """A thing that is no row for a desk."""


class NoName(KeyError):
    """A name that stands for nothing at the desk."""

    def __init__(self, name):
        KeyError.__init__(self, f"nothing is called {name!r}")
        self.name = name
