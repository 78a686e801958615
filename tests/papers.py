"""Whether a paper closes a room, by the words of point 20 once more: what closes is held against."""

from anystore.places import places
from anystore.terms import holds, worth
from tests.runs import Runs, fillings


def is_number(thing, bound):
    return isinstance(thing, int) and not isinstance(thing, bool) and 0 <= thing < bound


def are_numbers(thing, bounds):
    return isinstance(thing, tuple) and len(thing) == len(bounds) and all(map(is_number, thing, bounds))


class Paper:
    """Looks at papers of one room."""

    def __init__(self, program, name):
        self.room = program.room_of(name)
        self.runs = Runs(program, name)
        self.places = places(program, name)
        self.mosts = [place[3] for place in self.places if place[0] == "for"]
        self.owns = [box[0] for box in self.room.boxes]
        self.bounds = [box[1] for box in self.room.boxes]
        self.ask = 1 if self.room.above == "" else self.room.ask

    def has_sayings(self, boxes):
        return all(holds(saying, dict(zip(self.owns, boxes))) for saying in self.room.sayings)

    def fits(self, thing):
        if not isinstance(thing, list) or len(thing) != len(self.places):
            return False
        for place, rows in zip(self.places, thing):
            if not isinstance(rows, list) or (rows and place[0] in ("home", "clear", "again", "told")):
                return False
            for row in rows:
                if not isinstance(row, tuple) or len(row) != 3 or not is_number(row[1], self.ask):
                    return False
                if not are_numbers(row[0], self.bounds) or not are_numbers(row[2], [most + 1 for most in self.mosts]):
                    return False
        return True

    def begins(self):
        noughts = (0,) * len(self.mosts)
        return [
            (boxes, asked, noughts) for boxes in fillings(self.bounds) if self.has_sayings(boxes)
            for asked in range(self.ask)]

    def closes(self, thing):
        if not self.fits(thing):
            return False
        kept = [set(rows) for rows in thing]
        onward = self.places[0][1]
        if onward != 0 and not set(self.begins()) <= kept[onward]:
            return False
        return all(self.leads_on(kept, at, row) for at, rows in enumerate(kept) for row in rows)

    def leads_on(self, kept, at, row):
        place = self.places[at]
        if place[0] == "tell":
            told = worth(place[2], dict(zip(self.owns, row[0])), asked=row[1]) % place[1]
            promise = self.room.promise
            return self.has_sayings(row[0]) and (promise is None or holds(promise, {}, asked=row[1], told=told))
        return all(
            self.has_sayings(then[0]) if there == 0 else then in kept[there] for there, then in self.behind(place, row))

    def behind(self, place, row):
        """All to which a step leads: pairs (place, row)."""
        boxes, asked, counts = row
        named = dict(zip(self.owns, boxes))
        kind = place[0]
        if kind == "if":
            return [(place[2] if holds(place[1], named, asked=asked) else place[3], row)]
        if kind == "for":
            number = worth(place[2], named, asked=asked) % (place[3] + 1)
            return [(place[4], (boxes, asked, self.counted(counts, place[1], number)))]
        if kind == "check":
            if counts[place[1]] == 0:
                return [(place[3], row)]
            return [(place[2], (boxes, asked, self.counted(counts, place[1], counts[place[1]] - 1)))]
        if kind == "ask":
            step, there = ("call", place[1], place[2], place[3]), self.places[place[4]][2]
        else:
            step, there = place[:-1], place[-1]
        found = self.runs.step(step, named, asked)
        return [(there, (tuple(then.values()), asked, counts)) for given, then in found]

    def counted(self, counts, at, number):
        return (*counts[:at], number, *counts[at + 1:])
