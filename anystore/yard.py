"""Yards of machines with ways between them (point 25)."""

from anystore.bounds import beats_of
from anystore.errors import NoYard, TooLost
from anystore.forms import is_name
from anystore.machines import Machine
from anystore.ways import Way, way_beats

MOST_MACHINES = 4


class Yard:
    """Machines by names, and ways between them; it does these very objects, as they stand then."""

    def __init__(self, machines, ways=()):
        if not are_machines(machines):
            raise NoYard("machines")
        if not isinstance(ways, (list, tuple)):
            raise NoYard("ways")
        for at in range(len(ways)):
            if not way_fits(machines, ways, at):
                raise NoYard(at)
        self.machines = {name: machines[name] for name in sorted(list(machines))}
        self.ways = list(ways)

    def beat(self, *, lost=()):
        """Let all machines and ways step by what stands ahead, and tell what the machines say."""
        losses = [lost[at] if at in lost else (False, False) for at in range(len(self.ways))]
        for (name, goal, way), two in zip(self.ways, losses):
            side = way.side_lost(two)
            if side != "":
                raise TooLost(side)
        # All is asked for ahead of the first step.
        given = {goal: way.store()[6] for name, goal, way in self.ways}
        rooms = {name: way.store()[2] is None for name, goal, way in self.ways}
        taking = {goal: self.machines[goal].hears() for name, goal, way in self.ways}
        said = {}
        for name, machine in self.machines.items():
            said[name] = machine.beat(given.get(name), room=rooms.get(name, True))
        for (name, goal, way), two in zip(self.ways, losses):
            way.beat(word=first_word(said[name], way.bound), taking=taking[goal], lost=two)
        return [(name, room, number) for name in said for room, number in said[name]]

    def right_in(self):
        """Behind how many beats all has come right."""
        programs = [beats_of(machine.program()) for machine in self.machines.values()]
        return max(programs + [way_beats(way.hold, miss=way.miss) for name, goal, way in self.ways])

    def is_right(self):
        """Whether all machines mean stands and all ways are plain."""
        stands = [machine.stand() is not None for machine in self.machines.values()]
        return all(stands + [way.is_plain() for name, goal, way in self.ways])

    def __len__(self):
        return len(self.machines)


def are_machines(thing):
    if not isinstance(thing, dict) or not 1 <= len(thing) <= MOST_MACHINES:
        return False
    return all([is_name(name) and isinstance(thing[name], Machine) for name in thing])


def way_fits(machines, ways, at):
    """Whether this way leads as a way may, by those ahead of it, which do."""
    thing = ways[at]
    if not isinstance(thing, tuple) or len(thing) != 3:
        return False
    name, goal, way = thing
    # Any things may stand for the names, also such as are no keys.
    if name not in list(machines) or goal not in list(machines) or name == goal:
        return False
    if name in [row[0] for row in ways[:at]] or goal in [row[1] for row in ways[:at]]:
        return False
    return isinstance(way, Way)


def first_word(said, bound):
    """The first of what a machine says, as a word of the way from it; None where it says nothing."""
    return said[0][1] % bound if len(said) > 0 else None
