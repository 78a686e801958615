"""The beats by which rooms have come right, and the measures that tell why (points 16 and 17)."""

from anystore.forms import all_steps, is_whole
from anystore.places import body_size, places, step_size


def beats_home(program, name):
    room = program.room_of(name)
    return home_beats(room, body_weights(program))


def beats_right(program, name):
    room = program.room_of(name)
    return right_beats(program)[room.name]


def beats_of(program):
    return right_beats(program)[program.rooms()[0].name]


def home_beats(room, weights):
    return (1 if room.above == "" else 4) + weights[room.name]


def right_beats(program):
    """By their names, the beats behind which the rooms are right."""
    weights = body_weights(program)
    found = {}
    # Rooms beneath another one stand behind it, so theirs are known by then.
    for room in program.rooms()[::-1]:
        beneath = [found[name] for name in program.beneath(room.name)]
        found[room.name] = max(beneath, default=0) + home_beats(room, weights)
    return found


def body_weights(program):
    """By their names, what the bodies of the rooms weigh."""
    found = {}
    for room in program.rooms()[::-1]:
        found[room.name] = body_weight(room.body, found)
    return found


def body_weight(body, weights):
    return sum([step_weight(step, weights) for step in body])


def step_weight(step, weights):
    """What a step weighs; weights are those of the bodies of the rooms beneath."""
    kind = step[0]
    if kind == "if":
        return 1 + max(body_weight(step[2], weights), body_weight(step[3], weights))
    if kind == "for":
        return 1 + (step[2] + 1) * turn_weight(step, weights)
    if kind == "call":
        return call_weight(weights[step[2]])
    return 1


def turn_weight(step, weights):
    """What one turn of a for weighs: its check and its body."""
    return 1 + body_weight(step[3], weights)


def call_weight(weight):
    """What a call weighs of a room whose body has this weight."""
    return 8 + 2 * (1 + weight)


def measure(program, name):
    """A measure of the room, which comes to just its beats to home."""
    room = program.room_of(name)
    weights = body_weights(program)
    numbers = [0] * len(places(program, name))
    behind = 0
    if room.above != "":
        numbers[-2:] = [3, 2]
        behind = 3
    number_body(numbers, room.body, 1, behind, weights)
    fors = [turn_weight(step, weights) for step in all_steps(room.body) if step[0] == "for"]
    return (tuple(numbers), tuple(fors))


def number_body(numbers, body, at, behind, weights):
    """Put the numbers of a body's places, which begins at this place and leads to one that has the number behind."""
    left = behind + body_weight(body, weights)
    for step in body:
        numbers[at] = left
        left -= step_weight(step, weights)
        number_within(numbers, step, at, left, weights)
        at += step_size(step)


def number_within(numbers, step, at, behind, weights):
    """Put the numbers of a step's places but its first one."""
    if step[0] == "if":
        number_body(numbers, step[2], at + 1, behind, weights)
        number_body(numbers, step[3], at + 1 + body_size(step[2]), behind, weights)
    elif step[0] == "for":
        numbers[at + 1] = behind + 1
        number_body(numbers, step[3], at + 2, behind + 1, weights)
    elif step[0] == "call":
        numbers[at + 1] = behind + 2
        numbers[at + 2] = numbers[at]


def measure_holds(program, name, thing):
    """Whether any thing is a measure of the room that holds."""
    found = places(program, name)
    if not isinstance(thing, tuple) or len(thing) != 2:
        return False
    numbers, fors = thing
    many = len([place for place in found if place[0] == "for"])
    if not are_from(numbers, len(found), 0) or not are_from(fors, many, 1):
        return False
    weights = body_weights(program)
    return all([falls(found, at, numbers, fors, weights) for at in range(len(found))])


def are_from(thing, many, least):
    """Whether any thing is a tuple of so many whole numbers from the least on."""
    if not isinstance(thing, tuple) or len(thing) != many:
        return False
    return all([is_whole(number) and number >= least for number in thing])


def falls(found, at, numbers, fors, weights):
    """Whether the number of a place is as a measure wants it; weights are those of the rooms' bodies."""
    place = found[at]
    kind = place[0]
    number = numbers[at]
    if kind == "home":
        return number == 0
    if kind == "for":
        return number > numbers[place[4]] + place[3] * fors[place[1]]
    if kind == "check":
        return number > numbers[place[3]] and number + fors[place[1]] > numbers[place[2]]
    if kind == "if":
        return number > numbers[place[2]] and number > numbers[place[3]]
    if kind == "ask":
        behind = found[place[4]][2]
        return number >= numbers[behind] + call_weight(weights[place[2]])
    if kind == "again":
        return number >= numbers[place[2]]
    if kind == "clear":
        return number >= numbers[place[2]] + 2
    if kind == "told":
        return number >= 2
    return number > numbers[place[-1]]
