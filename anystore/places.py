"""The places of a room (point 9)."""


def places(program, name):
    room = program.room_of(name)
    many = body_size(room.body)
    behind = 0 if room.above == "" else many + 1
    found = [("home", begin_of(room.body, 1, behind))]
    add_body(found, room.body, behind)
    if room.above != "":
        bound, expression = room.told
        found.append(("tell", bound, expression, behind + 1))
        found.append(("told", 0))
    return found


def body_size(body):
    """How many places the steps of a body have."""
    return sum([step_size(step) for step in body])


def step_size(step):
    kind = step[0]
    if kind == "if":
        return 1 + body_size(step[2]) + body_size(step[3])
    if kind == "for":
        return 2 + body_size(step[3])
    if kind == "call":
        return 3
    return 1


def begin_of(body, at, behind):
    """Where a body begins whose first place would be at; an empty one leads on at once."""
    if len(body) == 0:
        return behind
    return at


def add_body(found, body, behind):
    """Put the places of a body behind those found; behind is where the body leads on to."""
    for number, step in enumerate(body):
        after = len(found) + step_size(step)
        add_step(found, step, begin_of(body[number + 1:], after, behind))


def add_step(found, step, behind):
    kind = step[0]
    if kind == "if":
        add_if(found, step, behind)
    elif kind == "for":
        add_for(found, step, behind)
    elif kind == "call":
        add_call(found, step, behind)
    else:
        found.append((*step, behind))


def add_if(found, step, behind):
    test, first, second = step[1:]
    begin = len(found) + 1
    yes = begin_of(first, begin, behind)
    no = begin_of(second, begin + body_size(first), behind)
    found.append(("if", test, yes, no))
    add_body(found, first, behind)
    add_body(found, second, behind)


def add_for(found, step, behind):
    expression, most, body = step[1:]
    number = len([place for place in found if place[0] == "for"])
    check = len(found) + 1
    found.append(("for", number, expression, most, check))
    found.append(("check", number, begin_of(body, check + 1, check), behind))
    add_body(found, body, check)


def add_call(found, step, behind):
    box, room, expression = step[1:]
    ask = len(found)
    found.append(("ask", box, room, expression, ask + 1, ask + 2))
    found.append(("clear", room, behind))
    found.append(("again", room, ask))


def for_spans(room):
    """For each for of a room, as they are numbered: (MOST, its check, the first place behind its body)."""
    found = []
    add_spans(found, room.body, 1)
    return found


def add_spans(found, body, begin):
    """Put the spans of a body's fors behind those found; begin is the body's first place."""
    at = begin
    for step in body:
        if step[0] == "for":
            found.append((step[2], at + 1, at + step_size(step)))
            add_spans(found, step[3], at + 2)
        if step[0] == "if":
            add_spans(found, step[2], at + 1)
            add_spans(found, step[3], at + 1 + body_size(step[2]))
        at += step_size(step)
