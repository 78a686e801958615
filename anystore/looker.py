"""The looker: runs of a room, and whether any of them breaks (points 18 and 19)."""

from anystore.errors import NoRun, TooMany
from anystore.forms import is_whole, is_within
from anystore.places import put
from anystore.stands import are_below

MOST_STANDS = 5000

# The steps at which a run is given a number, and the places that the sum of point 19 leaves out.
GIVEN = ("hear", "say", "ask")
LEFT_OUT = ("home", "clear", "again", "told")


def run_end(program, name, run):
    end = end_of(program.plans(), program.plan_of(name), run)
    if end is None:
        raise NoRun("no run of the room")
    return end


def breaks(program, name, thing):
    """Whether any thing is a run of the room that breaks."""
    plan = program.plan_of(name)
    end = end_of(program.plans(), plan, thing)
    return end is not None and end_breaks(plan, end, thing[1])


def stands_many(program, name):
    plan = program.plan_of(name)
    return product(plan.bounds) * plan.most_asked * sum(
        [product([plan.turns[number] for number in around])
            for step, around in zip(plan.steps, plan.around) if step[0] not in LEFT_OUT])


def product(numbers):
    many = 1
    for number in numbers:
        many *= number
    return many


def looked(program):
    """None of a program that is let by, else a room's name and a run of it that breaks."""
    for room in program.rooms():
        check_many(program, room.name)
    for plan in program.plans():
        found, broken = explored(program.plans(), plan)
        if broken is not None:
            return (plan.room.name, run_to(found, broken))
    return None


def check_many(program, name):
    many = stands_many(program, name)
    if many > MOST_STANDS:
        raise TooMany(name, many)


def end_of(plans, plan, thing):
    """The end of a run, None of any thing that is none."""
    if not is_begin(plan, thing):
        return None
    boxes, asked, given = thing
    place = plan.steps[0][1]
    counts = plan.noughts
    used = 0
    while plan.steps[place][0] not in ("home", "tell"):
        step = plan.steps[place]
        if step[0] not in GIVEN:
            deed = step[1]
            place, counts, boxes = deed(counts, boxes, asked)
        elif used < len(given) and may_be_given(plans, step, boxes, asked, given[used]):
            place = step[-1]
            boxes = put(boxes, step[2], given[used] % step[3])
            used += 1
        else:
            return None
    return (boxes, told_at(plan, place, boxes, asked)) if used == len(given) else None


def is_begin(plan, thing):
    """Whether any thing has the form of a run, with boxes and a number asked such as one begins by."""
    if not isinstance(thing, tuple) or len(thing) != 3:
        return False
    boxes, asked, given = thing
    return (
        is_within(asked, 0, plan.most_asked - 1) and isinstance(given, tuple)
        and are_below(boxes, plan.bounds) and plan.has_sayings(boxes))


def told_at(plan, place, boxes, asked):
    """What a room tells at the end of its body; None of the first room, which ends at home."""
    if place == 0:
        return None
    deed = plan.steps[place][1]
    return deed(boxes, asked)


def end_breaks(plan, end, asked):
    """Whether a saying fails by the end of a run, or the promise."""
    boxes, told = end
    if not plan.has_sayings(boxes):
        return True
    return told is not None and not plan.keeps_promise(asked, told)


def may_be_given(plans, step, boxes, asked, thing):
    return is_whole(thing) and thing in numbers_at(plans, step, boxes, asked)


def numbers_at(plans, step, boxes, asked):
    """The numbers that may be given at a step."""
    if step[0] == "hear":
        return list(range(step[3]))
    if step[0] == "say":
        return list(range(min(step[3], 2)))
    asking = step[4]
    return plans[step[1]].answers(asking(boxes, asked))


def moves(plans, plan, place, filling):
    """Where a filling (boxes, asked, counts) of a place leads by each number given: (place, filling, given)."""
    boxes, asked, counts = filling
    step = plan.steps[place]
    if step[0] in GIVEN:
        at, bound = step[2:4]
        return [
            (step[-1], (put(boxes, at, number % bound), asked, counts), (number,))
            for number in numbers_at(plans, step, boxes, asked)]
    deed = step[1]
    onward, counts_then, boxes_then = deed(counts, boxes, asked)
    return [(onward, (boxes_then, asked, counts_then), ())]


def begins(plan):
    """The fillings with which a run comes to the place to which home leads; of an empty first room none."""
    if plan.steps[0][1] == 0:
        return []
    rows = [()]
    for bound in plan.bounds:
        rows = [(*row, number) for row in rows for number in range(bound)]
    return [
        (boxes, asked, plan.noughts)
        for boxes in rows if plan.has_sayings(boxes) for asked in range(plan.most_asked)]


def explored(plans, plan):
    """For each place, home too, all fillings to which runs come, and what breaks: (found, None).

    Each has with it whence it was come to first: (place, filling, given), None at the begin. Where some run breaks,
    what was found by then, and the place and filling by which it does: (found, (place, filling)).
    """
    onward = plan.steps[0][1]
    found = [{} for step in plan.steps]
    todo = []
    for filling in begins(plan):
        found[onward][filling] = None
        todo.append((onward, filling))
    while len(todo) > 0:
        place, filling = todo.pop()
        if plan.steps[place][0] not in ("home", "tell"):
            for there, then, given in moves(plans, plan, place, filling):
                if then not in found[there]:
                    found[there][then] = (place, filling, given)
                    todo.append((there, then))
        elif breaks_at(plan, place, filling):
            return (found, (place, filling))
    return (found, None)


def breaks_at(plan, place, filling):
    """Whether a run breaks that ends with this filling, at home or at tell."""
    boxes, asked, counts = filling
    return end_breaks(plan, (boxes, told_at(plan, place, boxes, asked)), asked)


def run_to(found, broken):
    """The run that came to this place and filling."""
    place, filling = broken
    given = []
    whence = found[place][filling]
    while whence is not None:
        place, filling, number = whence
        given.extend(number)
        whence = found[place][filling]
    return (filling[0], filling[1], tuple(given[::-1]))
