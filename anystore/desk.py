"""A desk that keeps machines, and is told rows (point 26)."""

from anystore.bounds import beats_home, beats_of
from anystore.errors import NoName, NoRow
from anystore.forms import is_name
from anystore.machines import Machine
from anystore.reading import read_number, read_program

MOST_BEATS = 1000

# The words behind the first one of a row, in each way in which it may be told; load has a text behind a line end.
ROWS = {
    "load": (("name", "text"),), "beat": (("name", "many"), ("name", "many", "number")),
    "spoil": (("name", "number", "number"),), "words": (("name",),), "stand": (("name",),), "firsts": (("name",),),
    "swap": (("name", "name", "name"),), "bounds": (("name",),), "drop": (("name",),), "names": ((),),
}


class Desk:
    """Machines by names."""

    def __init__(self):
        self.machines = {}

    def say(self, row):
        """Do what a row tells, and answer."""
        word, parts = read_row(row)
        if word == "load":
            self.machines[parts[0]] = Machine(read_program(parts[1]))
            return "ok"
        if word == "names":
            return listed(sorted(list(self.machines)), " ")
        machine = self.machine_of(parts[0])
        if word == "drop":
            del self.machines[parts[0]]
            return "ok"
        if word == "swap":
            machine.swap(room_of(self.machine_of(parts[2]), parts[1]))
            return "ok"
        return answer(machine, word, parts[1:])

    def machine_of(self, name):
        if name not in self.machines:
            raise NoName(name)
        return self.machines[name]

    def __len__(self):
        return len(self.machines)


def room_of(machine, name):
    for room in machine.program().rooms():
        if room.name == name:
            return room
    raise NoName(name)


def answer(machine, word, parts):
    """What is answered to a row that is of one machine alone."""
    if word == "beat":
        return beaten(machine, parts)
    if word == "spoil":
        machine.spoil(parts[0], parts[1])
        return "ok"
    if word == "words":
        return listed(machine.words(), " ")
    if word == "stand":
        stand = machine.stand()
        return "none" if stand is None else listed([row[0] for row in stand], " ")
    if word == "firsts":
        return listed(machine.refills(), " ")
    program = machine.program()
    homes = [beats_home(program, room.name) for room in program.rooms()]
    return listed([*homes, beats_of(program)], " ")


def beaten(machine, parts):
    """What a machine says in so many beats."""
    many = parts[0]
    given = parts[1] if len(parts) == 2 else None
    said = []
    for beat in range(many):
        said.extend(machine.beat(given))
    return listed([f"{room} {number}" for room, number in said], ", ")


def listed(things, between):
    return "-" if len(things) == 0 else between.join([str(thing) for thing in things])


def read_row(row):
    """A row's first word, and what the others tell."""
    if not isinstance(row, str):
        raise NoRow("no text")
    first, end, text = row.partition("\n")
    word, *texts = first.split(" ")
    if word == "load" and end != "":
        texts.append(text)
    elif word == "load" or end != "":
        raise NoRow("a line end stands behind the name of a load, and nowhere else")
    if word in ROWS:
        for forms in ROWS[word]:
            parts = [read_part(form, part) for form, part in zip(forms, texts)]
            if len(texts) == len(forms) and None not in parts:
                return (word, parts)
    raise NoRow("no row")


def read_part(form, text):
    """What a word of this form tells, None where it isn't of it."""
    if form == "name":
        return text if is_name(text) else None
    if form == "text":
        return text
    number = read_number(text)
    if number is not None and form == "many" and not 1 <= number <= MOST_BEATS:
        return None
    return number
