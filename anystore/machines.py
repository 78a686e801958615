"""Machines of words, in which all rooms step at once (points 12 and 14)."""

from anystore.editions import swapped
from anystore.errors import NoWord
from anystore.forms import is_within
from anystore.places import put
from anystore.plain import said_by, stepped, taken
from anystore.stands import joined_words, meant_rows, number_asked, parted, stand_told

MOST_WORD = 999999


class Machine:
    """A program done by words, each of which may be spoilt."""

    def __init__(self, program):
        plans = program.plans()
        self.held = program
        self.drawn = plans
        # The words room by room, and what they mean; all tuples, so that a trial can put them back as they were.
        self.rows = tuple([plan.first_row() for plan in plans])
        self.meant = self.rows
        self.took = tuple([0] * len(plans))
        self.done = 0

    def beat(self, given=None, *, room=True):
        """Let all rooms step by the words as they stand, and tell what they say."""
        said = []
        behind = []
        for plan, row in zip(self.drawn, self.meant):
            step = plan.steps[row[0]]
            if step[0] in ("ask", "clear", "again", "told"):
                behind.append(met(self.drawn, self.meant, plan))
            elif step[0] != "home":
                behind.append(stepped(step, row, given, room))
                said.extend(said_by(plan, step, row, room))
            elif plan.has_sayings(row[2]):
                behind.append(begun(self.drawn, self.meant, plan))
            else:
                behind.append((0, row[1], plan.firsts, row[3], row[4]))
                self.took = put(self.took, plan.at, self.took[plan.at] + 1)
        self.rows = tuple(behind)
        self.meant = self.rows
        self.done += 1
        return tuple(said)

    def stand(self):
        return stand_told(self.drawn, self.meant)

    def now(self):
        return self.done

    def refills(self):
        return self.took

    def words(self):
        return joined_words(self.rows)

    def names(self):
        """What names each word, in their order."""
        found = []
        for plan in self.drawn:
            room = plan.room.name
            found.append((room, "place"))
            found.extend([(room, "count", number) for number in range(len(plan.mosts))])
            found.extend([(room, "box", box) for box in plan.owns])
            if plan.at > 0:
                found.extend([(room, "asked"), (room, "told")])
        return found

    def program(self):
        return self.held

    def spoil(self, at, word):
        """Let the word there become this one."""
        if not is_within(at, 0, len(self) - 1) or not is_within(word, 0, MOST_WORD):
            raise NoWord(at, word)
        self.rows = parted(self.drawn, put(self.words(), at, word))
        self.meant = meant_rows(self.drawn, self.rows)

    def swap(self, room):
        """Put in an edition of a room."""
        program = swapped(self.held, room)
        plan = program.plan_of(room.name)
        place, counts, boxes, asked, told = self.meant[plan.at]
        self.held = program
        self.drawn = program.plans()
        self.rows = put(self.rows, plan.at, (place, plan.noughts, boxes, asked, told))
        self.meant = meant_rows(self.drawn, self.rows)

    def trial(self, deed):
        """What a def tells that is called with the machine; all that it does to it is undone."""
        held, drawn, rows, meant = self.held, self.drawn, self.rows, self.meant
        took, done = self.took, self.done
        try:
            return deed(self)
        finally:
            self.held, self.drawn, self.rows, self.meant = held, drawn, rows, meant
            self.took, self.done = took, done

    def hears(self):
        """Whether one of its rooms stands at a hear."""
        return any([plan.steps[row[0]][0] == "hear" for plan, row in zip(self.drawn, self.meant)])

    def __eq__(self, other):
        return isinstance(other, Machine) and self.held == other.held and self.rows == other.rows

    def __len__(self):
        return len(self.words())

    def __repr__(self):
        return f"Machine({len(self.words())})"


def begun(plans, rows, plan):
    """The row behind a beat of a room at home that has its sayings."""
    row = rows[plan.at]
    onward = plan.steps[0][1]
    if plan.at == 0:
        return put(row, 0, onward)
    if not is_asked(plans, rows, plan):
        return row
    asking = rows[plan.higher]
    step = plans[plan.higher].steps[asking[0]]
    return (onward, row[1], row[2], number_asked(step, asking), row[4])


def met(plans, rows, plan):
    """The row behind a beat of a room at a step that hangs on where another one stands."""
    row = rows[plan.at]
    step = plan.steps[row[0]]
    if step[0] == "told":
        return row if is_asked(plans, rows, plan) else put(row, 0, 0)
    other = rows[step[1]]
    at_told = plans[step[1]].steps[other[0]][0] == "told"
    if step[0] != "ask":
        return row if at_told else put(row, 0, step[2])
    if not at_told:
        return row
    if other[3] == number_asked(step, row):
        return taken(step, row, other[4])
    return put(row, 0, step[6])


def is_asked(plans, rows, plan):
    """Whether the room above stands at an ask for this one."""
    step = plans[plan.higher].steps[rows[plan.higher][0]]
    return step[0] == "ask" and step[1] == plan.at
