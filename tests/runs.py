"""All runs of a room, gone through one by one as point 18 tells: what the looker is held against."""

from anystore.terms import holds, worth


def fillings(bounds):
    found = [()]
    for bound in bounds:
        found = [(*row, number) for row in found for number in range(bound)]
    return found


class Runs:
    """The runs of one room; a filling is a dict of boxes, and what is given stands in a list."""

    def __init__(self, program, name):
        self.program = program
        self.room = program.room_of(name)
        self.bounds = {box: bound for box, bound, first in self.room.boxes}

    def answers(self, name, asked):
        room = self.program.room_of(name)
        return [
            told for told in range(room.told[0])
            if room.promise is None or holds(room.promise, {}, asked=asked, told=told)]

    def through(self, body, boxes, asked):
        """All ways through a body: pairs (what is given, the boxes then)."""
        if not body:
            return [((), boxes)]
        return [
            (given + more, then)
            for given, between in self.step(body[0], boxes, asked)
            for more, then in self.through(body[1:], between, asked)]

    def step(self, step, boxes, asked):
        kind = step[0]
        if kind == "set":
            return [((), self.put(boxes, step[1], worth(step[2], boxes, asked=asked)))]
        if kind == "hear":
            return [((number,), self.put(boxes, step[1], number)) for number in range(self.bounds[step[1]])]
        if kind == "say":
            numbers = (0, 1) if self.bounds[step[1]] > 1 else (0,)
            return [((number,), self.put(boxes, step[1], number)) for number in numbers]
        if kind == "call":
            number = worth(step[3], boxes, asked=asked) % self.program.room_of(step[2]).ask
            return [((told,), self.put(boxes, step[1], told)) for told in self.answers(step[2], number)]
        if kind == "if":
            return self.through(step[2] if holds(step[1], boxes, asked=asked) else step[3], boxes, asked)
        turns = worth(step[1], boxes, asked=asked) % (step[2] + 1)
        return self.through(step[3] * turns, boxes, asked)

    def put(self, boxes, box, number):
        return {**boxes, box: number % self.bounds[box]}

    def all(self):
        """All runs, by them their ends."""
        found = {}
        first = self.room.above == ""
        for row in fillings(self.bounds.values()):
            boxes = dict(zip(self.bounds, row))
            if not all(holds(saying, boxes) for saying in self.room.sayings):
                continue
            for asked in range(1 if first else self.room.ask):
                for given, then in self.through(self.room.body, boxes, asked):
                    told = None
                    if not first:
                        told = worth(self.room.told[1], then, asked=asked) % self.room.told[0]
                    found[(row, asked, given)] = (tuple(then.values()), told)
        return found

    def breaks(self, run, end):
        boxes = dict(zip(self.bounds, end[0]))
        if not all(holds(saying, boxes) for saying in self.room.sayings):
            return True
        return self.room.promise is not None and not holds(self.room.promise, {}, asked=run[1], told=end[1])

    def many(self):
        """About how many there are at most, so that nobody asks for too many."""
        many = 1 if self.room.above == "" else self.room.ask
        for bound in self.bounds.values():
            many *= bound
        return many * self.ways(self.room.body)

    def ways(self, body):
        many = 1
        for step in body:
            if step[0] == "hear":
                many *= self.bounds[step[1]]
            elif step[0] == "say":
                many *= 2
            elif step[0] == "call":
                many *= self.program.room_of(step[2]).told[0]
            elif step[0] == "if":
                many *= max(self.ways(step[2]), self.ways(step[3]))
            elif step[0] == "for":
                many *= self.ways(step[3]) ** step[2]
        return many
