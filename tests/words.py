"""All rooms of a program stepping at once by their words, as point 12 tells: what the plain reading is held against."""

from anystore.places import places
from anystore.terms import holds, worth


class Words:
    """The words of a program, room by room; they are kept as they are, also where they are beyond their bounds."""

    def __init__(self, program, words=None):
        self.rooms = program.rooms()
        self.places = {room.name: places(program, room.name) for room in self.rooms}
        self.mosts = {
            name: [place[3] for place in told if place[0] == "for"] for name, told in self.places.items()}
        self.refills = [0] * len(self.rooms)
        self.words = list(self.firsts() if words is None else words)

    def firsts(self):
        for room in self.rooms:
            yield from [0] * (1 + len(self.mosts[room.name]))
            yield from [box[2] for box in room.boxes]
            if room.above != "":
                yield from (0, 0)

    def bounds(self):
        """For each word the number by whose rest it means what it means."""
        found = []
        for room in self.rooms:
            found.append(len(self.places[room.name]))
            found.extend(most + 1 for most in self.mosts[room.name])
            found.extend(box[1] for box in room.boxes)
            if room.above != "":
                found.extend((room.ask, room.told[0]))
        return found

    def meant(self):
        """By the rooms' names: place, counts, boxes, asked, told, each as its word means it."""
        rests = [word % bound for word, bound in zip(self.words, self.bounds())]
        found = {}
        for room in self.rooms:
            row = {"place": rests.pop(0)}
            row["counts"] = [rests.pop(0) for most in self.mosts[room.name]]
            row["boxes"] = {box[0]: rests.pop(0) for box in room.boxes}
            row["asked"] = rests.pop(0) if room.above else 0
            row["told"] = rests.pop(0) if room.above else 0
            row["at"] = self.places[room.name][row["place"]]
            found[room.name] = row
        return found

    def beat(self, given=None, room=True):
        ahead = self.meant()
        said = []
        words = []
        for number, one in enumerate(self.rooms):
            row = self.stepped(number, one, ahead, given, room, said)
            words.extend([row["place"], *row["counts"], *row["boxes"].values()])
            if one.above != "":
                words.extend([row["asked"], row["told"]])
        self.words = words
        return tuple(said)

    def stepped(self, number, one, ahead, given, room, said):
        row = {**ahead[one.name], "counts": list(ahead[one.name]["counts"]), "boxes": dict(ahead[one.name]["boxes"])}
        at = row["at"]
        boxes, asked = ahead[one.name]["boxes"], row["asked"]
        bounds = {box[0]: box[1] for box in one.boxes}

        def told_at(name):
            return ahead[name]["at"][0] == "told"

        def is_asked():
            above = ahead[one.above]["at"]
            return above[0] == "ask" and above[2] == one.name

        kind = at[0]
        if kind == "home":
            if not all(holds(saying, boxes) for saying in one.sayings):
                row["boxes"] = {box[0]: box[2] for box in one.boxes}
                self.refills[number] += 1
            elif one.above == "":
                row["place"] = at[1]
            elif is_asked():
                above = ahead[one.above]
                row["asked"] = worth(above["at"][3], above["boxes"], asked=above["asked"]) % one.ask
                row["place"] = at[1]
        elif kind == "set":
            row["boxes"][at[1]] = worth(at[2], boxes, asked=asked) % bounds[at[1]]
            row["place"] = at[3]
        elif kind == "hear":
            bound = bounds[at[1]]
            row["boxes"][at[1]] = 0 if given is None or bound == 1 else 1 + given % (bound - 1)
            row["place"] = at[2]
        elif kind == "say":
            if room:
                said.append((one.name, worth(at[2], boxes, asked=asked)))
            row["boxes"][at[1]] = 1 % bounds[at[1]] if room else 0
            row["place"] = at[3]
        elif kind == "if":
            row["place"] = at[2] if holds(at[1], boxes, asked=asked) else at[3]
        elif kind == "for":
            row["counts"][at[1]] = worth(at[2], boxes, asked=asked) % (at[3] + 1)
            row["place"] = at[4]
        elif kind == "check":
            row["place"] = at[2] if row["counts"][at[1]] else at[3]
            row["counts"][at[1]] = max(0, row["counts"][at[1]] - 1)
        elif kind == "ask":
            if told_at(at[2]):
                other = ahead[at[2]]
                bound = [two.ask for two in self.rooms if two.name == at[2]][0]
                if other["asked"] == worth(at[3], boxes, asked=asked) % bound:
                    row["boxes"][at[1]] = other["told"] % bounds[at[1]]
                    row["place"] = at[4]
                else:
                    row["place"] = at[5]
        elif kind in ("clear", "again"):
            if not told_at(at[1]):
                row["place"] = at[2]
        elif kind == "tell":
            row["told"] = worth(at[2], boxes, asked=asked) % at[1]
            row["place"] = at[3]
        elif not is_asked():
            row["place"] = 0
        return row
