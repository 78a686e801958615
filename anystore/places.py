"""The places of a room (point 9), and rooms made ready to be done."""

from anystore.terms import ready_test, ready_worth


def places(program, name):
    return room_places(program.room_of(name))


def room_places(room):
    many = body_size(room.body)
    behind = 0 if room.above == "" else many + 1
    found = [("home", begin_of(room.body, 1, behind))]
    add_body(found, room.body, behind)
    if room.above != "":
        bound, expression = room.told
        found.append(("tell", bound, expression, behind + 1))
        found.append(("told", 0))
    return found


def body_size(body):
    """How many places the steps of a body have."""
    return sum([step_size(step) for step in body])


def step_size(step):
    kind = step[0]
    if kind == "if":
        return 1 + body_size(step[2]) + body_size(step[3])
    if kind == "for":
        return 2 + body_size(step[3])
    if kind == "call":
        return 3
    return 1


def begin_of(body, at, behind):
    """Where a body begins whose first place would be at; an empty one leads on at once."""
    if len(body) == 0:
        return behind
    return at


def add_body(found, body, behind):
    """Put the places of a body behind those found; behind is where the body leads on to."""
    for number, step in enumerate(body):
        after = len(found) + step_size(step)
        add_step(found, step, begin_of(body[number + 1:], after, behind))


def add_step(found, step, behind):
    kind = step[0]
    if kind == "if":
        add_if(found, step, behind)
    elif kind == "for":
        add_for(found, step, behind)
    elif kind == "call":
        add_call(found, step, behind)
    else:
        found.append((*step, behind))


def add_if(found, step, behind):
    test, first, second = step[1:]
    begin = len(found) + 1
    yes = begin_of(first, begin, behind)
    no = begin_of(second, begin + body_size(first), behind)
    found.append(("if", test, yes, no))
    add_body(found, first, behind)
    add_body(found, second, behind)


def add_for(found, step, behind):
    expression, most, body = step[1:]
    number = len([place for place in found if place[0] == "for"])
    check = len(found) + 1
    found.append(("for", number, expression, most, check))
    found.append(("check", number, begin_of(body, check + 1, check), behind))
    add_body(found, body, check)


def add_call(found, step, behind):
    box, room, expression = step[1:]
    ask = len(found)
    found.append(("ask", box, room, expression, ask + 1, ask + 2))
    found.append(("clear", room, behind))
    found.append(("again", room, ask))


def fors_around(room):
    """For each place the numbers of the fors at whose check, or within whose body, it is."""
    found = [()]
    add_around(found, room.body, (), 0)
    return found if room.above == "" else found + [(), ()]


def add_around(found, body, around, begun):
    """Put those of a body's places behind those found, and tell how many fors have begun then."""
    for step in body:
        if step[0] == "for":
            within = (*around, begun)
            found.extend([around, within])
            begun = add_around(found, step[3], within, begun + 1)
        elif step[0] == "if":
            found.append(around)
            begun = add_around(found, step[2], around, begun)
            begun = add_around(found, step[3], around, begun)
        else:
            found.extend([around] * step_size(step))
    return begun


class Plan:
    """A room made ready to be done; it tells always the same, so all that do a program may share its plans.

    Rooms and boxes stand in it by their numbers, terms as defs of boxes and asked. Its steps are its places, each with
    what it takes to do it:
    ("home", NEXT), ("told", 0), ("clear", ROOM, NEXT), ("again", ROOM, ASK);
    ("tell", DEF, TOLD), the def with what is told;
    ("set", DEF), ("if", DEF), ("for", DEF), ("check", DEF), the def, of counts, boxes and asked, with the place that is
    come to, and the counts and boxes then;
    ("hear", None, BOX, BOUND, NEXT), ("say", DEF, BOX, BOUND, NEXT), the def with what is said;
    ("ask", ROOM, BOX, BOUND, DEF, CLEAR, AGAIN, NEXT), the def with the number asked, NEXT behind the call.
    """

    def __init__(self, rooms, at):
        room = rooms[at]
        found = room_places(room)
        self.room = room
        self.at = at
        self.higher = 0 if at == 0 else number_of(rooms, room.above)
        self.owns = [box[0] for box in room.boxes]
        self.bounds = [box[1] for box in room.boxes]
        self.firsts = tuple([box[2] for box in room.boxes])
        self.mosts = [place[3] for place in found if place[0] == "for"]
        self.turns = [most + 1 for most in self.mosts]
        self.noughts = tuple([0] * len(self.mosts))
        self.around = fors_around(room)
        # The first room is asked nothing and tells nothing: both are always 0, the one number below 1.
        self.most_asked = 1 if at == 0 else room.ask
        self.most_told = 1 if at == 0 else room.told[0]
        self.tests = [ready_test(saying, self.owns) for saying in room.sayings]
        self.vow = None if room.promise is None else ready_test(room.promise, [])
        self.known = {}
        self.steps = [ready_step(self, rooms, found, place) for place in found]

    def first_row(self):
        return (0, self.noughts, self.firsts, 0, 0)

    def has_sayings(self, boxes):
        for test in self.tests:
            if not test(boxes, 0, 0):
                return False
        return True

    def keeps_promise(self, asked, told):
        vow = self.vow
        return vow is None or vow((), asked, told)

    def answers(self, asked):
        """What it may tell to who asks this number; kept, as the looker wants it at many stands."""
        if asked not in self.known:
            self.known[asked] = [told for told in range(self.most_told) if self.keeps_promise(asked, told)]
        return self.known[asked]


def ready_step(plan, rooms, found, place):
    kind = place[0]
    if kind in ("set", "if", "for", "check"):
        return (kind, ready_deed(plan, place))
    if kind in ("clear", "again"):
        return (kind, number_of(rooms, place[1]), place[2])
    if kind == "tell":
        return ("tell", ready_rest(plan, place[2], place[1]), place[3])
    if kind == "hear":
        return ("hear", None) + box_of(plan, place[1]) + (place[2],)
    if kind == "say":
        return ("say", ready_own(plan, place[2])) + box_of(plan, place[1]) + (place[3],)
    if kind == "ask":
        other = number_of(rooms, place[2])
        asking = ready_rest(plan, place[3], rooms[other].ask)
        return ("ask", other) + box_of(plan, place[1]) + (asking, place[4], place[5], found[place[4]][2])
    return place


def number_of(rooms, name):
    return [room.name for room in rooms].index(name)


def box_of(plan, name):
    """A box's number and its bound."""
    at = plan.owns.index(name)
    return (at, plan.bounds[at])


def ready_own(plan, expression):
    """A def of boxes and asked: an expression's worth."""
    worth_by = ready_worth(expression, plan.owns)
    return lambda boxes, asked: worth_by(boxes, asked, 0)


def ready_rest(plan, expression, bound):
    """A def of boxes and asked: an expression's worth by the rest of a bound."""
    worth_by = ready_worth(expression, plan.owns)
    return lambda boxes, asked: worth_by(boxes, asked, 0) % bound


def ready_deed(plan, place):
    kind = place[0]
    if kind == "set":
        return ready_set(plan, place)
    if kind == "if":
        return ready_if(plan, place)
    if kind == "for":
        return ready_for(plan, place)
    return ready_check(place)


def ready_set(plan, place):
    at, bound = box_of(plan, place[1])
    rest_by = ready_rest(plan, place[2], bound)
    onward = place[3]
    return lambda counts, boxes, asked: (onward, counts, put(boxes, at, rest_by(boxes, asked)))


def ready_if(plan, place):
    holds_by = ready_test(place[1], plan.owns)
    yes, no = place[2:]
    return lambda counts, boxes, asked: (yes if holds_by(boxes, asked, 0) else no, counts, boxes)


def ready_for(plan, place):
    number = place[1]
    rest_by = ready_rest(plan, place[2], place[3] + 1)
    check = place[4]
    return lambda counts, boxes, asked: (check, put(counts, number, rest_by(boxes, asked)), boxes)


def ready_check(place):
    number, inside, out = place[1:]

    def turn(counts, boxes, asked):
        if counts[number] == 0:
            return (out, counts, boxes)
        return (inside, put(counts, number, counts[number] - 1), boxes)

    return turn


def put(numbers, at, number):
    """The same numbers, but this one there."""
    return numbers[:at] + (number,) + numbers[at + 1:]
