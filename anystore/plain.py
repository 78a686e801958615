"""The plain reading of a program, one deed at a time (points 10 and 11)."""

from anystore.errors import NoStand
from anystore.places import put
from anystore.stands import called, is_stand, number_asked


class Plain:
    """A plain reading, from the beginning or from a stand."""

    def __init__(self, program, *, stand=None):
        plans = program.plans()
        if stand is not None and not is_stand(plans, stand):
            raise NoStand("no stand of the program")
        self.drawn = plans
        # All deeds leave rows such as a stand has them, so these are told as they are.
        self.rows = tuple([plan.first_row() for plan in plans]) if stand is None else stand
        self.took = tuple([0] * len(plans))
        self.done = 0

    def beat(self, given=None, *, room=True):
        """Do the next deed, and tell what is said."""
        self.done += 1
        line = called(self.drawn, self.rows)
        here = self.drawn[line[-1]]
        row = self.rows[here.at]
        step = here.steps[row[0]]
        if step[0] not in ("home", "told"):
            self.move(here, stepped(step, row, given, room))
            return said_by(here, step, row, room)
        if here.at > 0:
            self.hand_over(self.drawn[line[-2]], here)
        elif self.look(here):
            self.move(here, put(row, 0, step[1]))
        return ()

    def hand_over(self, above, beneath):
        """A deed of a call that is not the other room's own: that one is at home or at told."""
        asking = self.rows[above.at]
        other = self.rows[beneath.at]
        step = above.steps[asking[0]]
        if step[0] == "ask" and other[0] == 0:
            self.move(beneath, (beneath.steps[0][1], other[1], other[2], number_asked(step, asking), 0))
        elif step[0] == "ask":
            self.move(above, taken(step, asking, other[4]))
        elif other[0] > 0:
            self.move(beneath, (0, other[1], other[2], 0, 0))
        else:
            self.move(above, put(asking, 0, step[2]))
            self.look(beneath)

    def look(self, here):
        """Whether a room at home has its sayings; where it hasn't, it takes its firsts."""
        if here.has_sayings(self.rows[here.at][2]):
            return True
        self.move(here, here.first_row())
        self.took = put(self.took, here.at, self.took[here.at] + 1)
        return False

    def move(self, here, row):
        self.rows = put(self.rows, here.at, row)

    def stand(self):
        for plan, row in zip(self.drawn, self.rows):
            if row[0] == 0 and not plan.has_sayings(row[2]):
                return None
        return self.rows

    def now(self):
        return self.done

    def refills(self):
        return self.took


def stepped(step, row, given, room):
    """The row behind a deed that a room does by itself: set, hear, say, if, for, check, tell."""
    place, counts, boxes, asked, told = row
    kind, deed = step[:2]
    if kind == "hear":
        return (step[4], counts, put(boxes, step[2], heard(step[3], given)), asked, told)
    if kind == "say":
        return (step[4], counts, put(boxes, step[2], 1 % step[3] if room else 0), asked, told)
    if kind == "tell":
        return (step[2], counts, boxes, asked, deed(boxes, asked))
    place, counts, boxes = deed(counts, boxes, asked)
    return (place, counts, boxes, asked, told)


def heard(bound, given):
    """What a box of this bound becomes by what is given."""
    if given is None or bound == 1:
        return 0
    return 1 + given % (bound - 1)


def said_by(here, step, row, room):
    """What is said by a room of this row at this step."""
    if step[0] != "say" or not room:
        return ()
    deed = step[1]
    return ((here.room.name, deed(row[2], row[3])),)


def taken(step, row, told):
    """The row of a room at an ask behind it, when it has taken what is told."""
    place, counts, boxes, asked, own = row
    return (step[5], counts, put(boxes, step[2], told % step[3]), asked, own)
