"""What words mean, and which things are stands (points 11 and 13)."""

from anystore.forms import is_within
from anystore.places import for_spans, places
from anystore.terms import holds, worth


class Standing:
    """A room and how it stands; a row is what a stand has of it: (place, counts, boxes, asked, told)."""

    def __init__(self, program, room, row):
        place, counts, boxes, asked, told = row
        self.room = room
        self.steps = places(program, room.name)
        self.spans = for_spans(room)
        self.place = place
        self.counts = list(counts)
        self.boxes = {box[0]: number for box, number in zip(room.boxes, boxes)}
        self.asked = asked
        self.told = told
        self.took = 0

    def step(self):
        return self.steps[self.place]

    def kind(self):
        return self.steps[self.place][0]

    def calls(self):
        """The name of the room that it stands at an ask or a clear for; "" where it does neither."""
        if self.kind() == "ask":
            return self.step()[2]
        if self.kind() == "clear":
            return self.step()[1]
        return ""

    def worth_of(self, expression):
        return worth(expression, self.boxes, asked=self.asked)

    def has(self, test):
        return holds(test, self.boxes, asked=self.asked)

    def has_sayings(self):
        return all([self.has(saying) for saying in self.room.sayings])

    def lacks_saying(self):
        """Whether it is at home without one of its sayings."""
        return self.kind() == "home" and not self.has_sayings()

    def counts_fit(self):
        """Whether each count within its for's body is below its MOST."""
        inside = [
            count < most for (most, check, end), count in zip(self.spans, self.counts) if check < self.place < end]
        return all(inside)

    def row(self):
        counts = [
            count if check <= self.place < end else 0
            for (most, check, end), count in zip(self.spans, self.counts)]
        boxes = [self.boxes[box[0]] for box in self.room.boxes]
        asked = 0 if self.kind() == "home" else self.asked
        told = self.told if self.kind() == "told" else 0
        return (self.place, tuple(counts), tuple(boxes), asked, told)


def standings(program, rows):
    return [Standing(program, room, row) for room, row in zip(program.rooms(), rows)]


def stand_of(program, words):
    """The stand that the words mean, None where they mean none."""
    rows = []
    at = 0
    for room in program.rooms():
        many = words_many(room)
        rows.append(meant(program, room, words[at:at + many]))
        at += many
    return stand_told(standings(program, rows))


def words_many(room):
    """How many words a room has."""
    own = 1 + len(for_spans(room)) + len(room.boxes)
    return own if room.above == "" else own + 2


def meant(program, room, words):
    """What a room's own words mean, each by its rest."""
    spans = for_spans(room)
    place = words[0] % len(places(program, room.name))
    counts = tuple([word % (span[0] + 1) for span, word in zip(spans, words[1:])])
    boxes = tuple([word % box[1] for box, word in zip(room.boxes, words[1 + len(spans):])])
    if room.above == "":
        return (place, counts, boxes, 0, 0)
    return (place, counts, boxes, words[-2] % room.ask, words[-1] % room.told[0])


def stand_told(standing):
    """The stand of rooms that stand so, None where that is none (point 13)."""
    line = called(standing)
    names = [one.room.name for one in line]
    for one in standing:
        if one.kind() == "again" or one.lacks_saying() or not one.counts_fit():
            return None
        if one.kind() != "home" and one.room.name not in names:
            return None
    for above, beneath in zip(line, line[1:]):
        if not call_fits(above, beneath):
            return None
    return tuple([one.row() for one in standing])


def called(standing):
    """The first room and all that are called, each by the one ahead of it."""
    by_name = {one.room.name: one for one in standing}
    line = [standing[0]]
    while line[-1].calls() != "":
        line.append(by_name[line[-1].calls()])
    return line


def call_fits(above, beneath):
    """Whether a called room stands where the one that calls it lets it stand."""
    if above.kind() == "clear":
        return beneath.kind() in ("told", "home")
    return beneath.kind() == "home" or beneath.asked == number_asked(above, beneath)


def number_asked(above, beneath):
    """What a room at an ask for another one asks of it."""
    return above.worth_of(above.step()[3]) % beneath.room.ask


def is_stand(program, thing):
    """Whether any thing is a stand of the program."""
    if not isinstance(thing, tuple) or len(thing) != len(program):
        return False
    if not all([row_fits(program, room, row) for room, row in zip(program.rooms(), thing)]):
        return False
    return stand_told(standings(program, thing)) == thing


def row_fits(program, room, row):
    """Whether any thing has the form of what a stand has of this room, all numbers below their bounds."""
    if not isinstance(row, tuple) or len(row) != 5:
        return False
    place, counts, boxes, asked, told = row
    most_asked, most_told = (0, 0) if room.above == "" else (room.ask - 1, room.told[0] - 1)
    return (
        is_within(place, 0, len(places(program, room.name)) - 1)
        and are_within(counts, [span[0] for span in for_spans(room)])
        and are_within(boxes, [box[1] - 1 for box in room.boxes])
        and is_within(asked, 0, most_asked) and is_within(told, 0, most_told))


def are_within(numbers, mosts):
    if not isinstance(numbers, tuple) or len(numbers) != len(mosts):
        return False
    return all([is_within(number, 0, most) for number, most in zip(numbers, mosts)])
