"""The plain reading of a program, one deed at a time (points 10 and 11)."""

from anystore.errors import NoStand
from anystore.places import for_spans
from anystore.stands import called, is_stand, number_asked, standings


class Plain:
    """A plain reading, from the beginning or from a stand."""

    def __init__(self, program, *, stand=None):
        rows = first_stand(program) if stand is None else stand
        if not is_stand(program, rows):
            raise NoStand("no stand of the program")
        self.standing = standings(program, rows)
        self.done = 0

    def beat(self, given=None, *, room=True):
        """Do the next deed, and tell what is said."""
        self.done += 1
        line = called(self.standing)
        here = line[-1]
        if len(line) > 1 and here.kind() in ("home", "told"):
            hand_over(line[-2], here)
            return ()
        return do_step(here, given, room)

    def stand(self):
        if any([one.lacks_saying() for one in self.standing]):
            return None
        return tuple([one.row() for one in self.standing])

    def now(self):
        return self.done

    def refills(self):
        return tuple([one.took for one in self.standing])


def first_stand(program):
    return tuple([
        (0, tuple([0 for span in for_spans(room)]), tuple([box[2] for box in room.boxes]), 0, 0)
        for room in program.rooms()])


def hand_over(above, beneath):
    """A deed of a call that is not the other room's own: that one is at home or at told."""
    step = above.step()
    if step[0] == "ask" and beneath.kind() == "home":
        beneath.asked = number_asked(above, beneath)
        beneath.place = beneath.step()[-1]
    elif step[0] == "ask":
        put(above, step[1], beneath.told)
        above.place = step[4]
    elif beneath.kind() == "told":
        beneath.place = beneath.step()[-1]
    else:
        above.place = step[-1]
        look(beneath)


def look(here):
    """Whether a room at home has its sayings; where it hasn't, it takes its firsts."""
    if here.has_sayings():
        return True
    here.boxes = {box[0]: box[2] for box in here.room.boxes}
    here.took += 1
    return False


def do_step(here, given, room):
    """Do the step at which a room stands, and tell what is said; all but an ask and a clear."""
    step = here.step()
    kind = step[0]
    if kind == "home" and not look(here):
        return ()
    # Most steps lead to one place, their last part; those below that lead to others say so.
    here.place = step[-1]
    if kind == "set":
        put(here, step[1], here.worth_of(step[2]))
    elif kind == "hear":
        put(here, step[1], heard(bound_of(here, step[1]), given))
    elif kind == "say":
        return say(here, step, room)
    elif kind == "if" and here.has(step[1]):
        here.place = step[2]
    elif kind == "for":
        here.counts[step[1]] = here.worth_of(step[2]) % (step[3] + 1)
    elif kind == "check" and here.counts[step[1]] > 0:
        here.counts[step[1]] -= 1
        here.place = step[2]
    elif kind == "tell":
        here.told = here.worth_of(step[2]) % step[1]
    return ()


def heard(bound, given):
    """What a box of this bound becomes by what is given."""
    if given is None or bound == 1:
        return 0
    return 1 + given % (bound - 1)


def say(here, step, room):
    said = ((here.room.name, here.worth_of(step[2])),)
    put(here, step[1], 1 if room else 0)
    return said if room else ()


def put(here, box, number):
    """A box becomes a number, by the rest of its bound."""
    here.boxes[box] = number % bound_of(here, box)


def bound_of(here, name):
    bounds = {box[0]: box[1] for box in here.room.boxes}
    return bounds[name]
