"""Right programs of any shape, each by its seed, the same each time."""

import random

from anystore.programs import Program, Room
from anystore.terms import holds

DEEDS = ("plus", "less", "times", "over", "rest")
NAMES = (
    "room", "in", "box", "saying", "tells", "promise", "set", "if", "else", "for", "upto", "call", "hear", "say",
    "rest", "a", "b", "abcdefgh", "ask", "nots")


class Chance:
    """What makes programs: a source of chance that its seed sets, and the bounds from which it takes some."""

    def __init__(self, seed, *, bounds=(1, 2, 3, 7, 40), asks=(1, 3, 40), tells=(1, 2, 5, 40), mosts=(1, 2, 3, 9)):
        self.source = random.Random(seed)
        self.bounds = bounds
        self.asks = asks
        self.tells = tells
        self.mosts = mosts

    def expression(self, boxes, words, deep):
        leaves = [("box", name) for name in boxes] + [(word,) for word in words]
        if deep == 1 or self.source.random() < 0.4:
            if leaves and self.source.random() < 0.7:
                return self.source.choice(leaves)
            return ("number", self.source.choice((0, 1, 2, 3, 5, 9, 40, 999)))
        return (self.source.choice(DEEDS), *[self.expression(boxes, words, deep - 1) for side in "ab"])

    def test(self, boxes, words, deep):
        kind = self.source.choice(("is", "below", "below", "not", "both", "either"))
        if deep <= 2 or kind in ("is", "below"):
            kind = self.source.choice(("is", "below"))
            return (kind, *[self.expression(boxes, words, min(deep - 1, 2)) for side in "ab"])
        if kind == "not":
            return ("not", self.test(boxes, words, deep - 1))
        return (kind, *[self.test(boxes, words, 2) for side in "ab"])

    def saying(self, boxes):
        test = self.test([box[0] for box in boxes], (), 3)
        return test if holds(test, {name: number for name, bound, number in boxes}) else ("not", test)

    def boxes(self, least):
        names = sorted(self.source.sample(NAMES, self.source.randint(least, 4)))
        bounds = [self.source.choice(self.bounds) for name in names]
        return tuple((name, bound, self.source.randrange(bound)) for name, bound in zip(names, bounds))

    def body(self, boxes, words, beneath, deep):
        if not boxes:
            return ()
        return tuple(self.step(boxes, words, beneath, deep) for k in range(self.source.randint(0, 3)))

    def whole_body(self, boxes, words, beneath):
        body = self.body(boxes, words, beneath, 3)
        while len(Room("a", body=body)) > 30:
            body = body[:-1]
        return body

    def step(self, boxes, words, beneath, deep):
        kind = self.source.choice(("set", "hear", "say", "if", "for", "call", "call"))
        term = self.expression(boxes, words, 3)
        box = self.source.choice(boxes)
        if kind == "call" and beneath:
            return ("call", box, self.source.choice(beneath), term)
        if kind == "if" and deep > 1:
            bodies = [self.body(boxes, words, beneath, deep - 1) for side in "ab"]
            return ("if", self.test(boxes, words, 3), *bodies)
        if kind == "for" and deep > 1:
            return ("for", term, self.source.choice(self.mosts), self.body(boxes, words, beneath, deep - 1))
        if kind == "hear":
            return ("hear", box)
        return ("say" if kind == "say" else "set", box, term)

    def aboves(self, many):
        """For each room the number of the one above it, at most four floors deep."""
        found = [0]
        floors = [1]
        for k in range(1, many):
            found.append(self.source.choice([at for at in range(k) if floors[at] < 4]))
            floors.append(floors[found[k]] + 1)
        return found

    def program(self, many):
        names = self.source.sample(NAMES, many)
        aboves = self.aboves(many)
        rooms = []
        for k, name in enumerate(names):
            beneath = [names[at] for at in range(1, many) if aboves[at] == k]
            boxes = self.boxes(1 if beneath else 0)
            sayings = tuple(self.saying(boxes) for at in range(self.source.randint(0, 2)))
            own = [box[0] for box in boxes]
            if k == 0:
                rooms.append(Room(name, boxes=boxes, sayings=sayings, body=self.whole_body(own, (), beneath)))
                continue
            told = (self.source.choice(self.tells), self.expression(own, ("asked",), 3))
            promise = self.source.choice((None, self.test((), ("asked", "told"), 3)))
            rooms.append(Room(
                name, above=names[aboves[k]], boxes=boxes, sayings=sayings, ask=self.source.choice(self.asks),
                told=told, promise=promise, body=self.whole_body(own, ("asked",), beneath)))
        return Program(tuple(rooms))


def programs(seeds):
    """For each seed a source of chance, and a program made by it; one to eight rooms, in turn."""
    for seed in seeds:
        chance = Chance(seed)
        yield chance.source, chance.program(1 + seed % 8)


def small_programs(seeds, *, most=5):
    """The same, with bounds so small that the looker goes through most of them; one to so many rooms, in turn."""
    for seed in seeds:
        chance = Chance(seed, bounds=(1, 2, 2, 3, 4), asks=(1, 2, 3), tells=(1, 2, 4), mosts=(1, 1, 2, 3))
        yield chance.source, chance.program(1 + seed % most)
