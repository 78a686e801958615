"""Closures: papers by which no run of a room breaks (point 20)."""

from anystore.forms import is_within
from anystore.looker import LEFT_OUT, breaks_at, check_many, explored, moves
from anystore.stands import are_below


def closure(program, name):
    """A closure of the room, None where some run of it breaks."""
    plan = program.plan_of(name)
    check_many(program, plan.room.name)
    found, broken = explored(program.plans(), plan)
    if broken is not None:
        return None
    # Runs of the first room come home, where a closure has nothing.
    return [[] if step[0] in LEFT_OUT else list(fillings) for step, fillings in zip(plan.steps, found)]


def closes(program, name, thing):
    """Whether any thing is a closure of the room that holds."""
    plan = program.plan_of(name)
    if not are_fillings(plan, thing):
        return False
    kept = [{filling: True for filling in fillings} for fillings in thing]
    onward = plan.steps[0][1]
    needs = [boxes_needed(saying, plan.owns) for saying in plan.room.sayings]
    if onward != 0 and not all_begin(plan, needs, kept[onward], ()):
        return False
    for place, fillings in enumerate(kept):
        for filling in fillings:
            if not leads_on(program.plans(), plan, kept, place, filling):
                return False
    return True


def are_fillings(plan, thing):
    """Whether any thing has the form of a closure: for each place a list of fillings, none where none may stand."""
    if not isinstance(thing, list) or len(thing) != len(plan.steps):
        return False
    for step, fillings in zip(plan.steps, thing):
        if not isinstance(fillings, list) or (step[0] in LEFT_OUT and len(fillings) > 0):
            return False
        if not all([is_filling(plan, filling) for filling in fillings]):
            return False
    return True


def is_filling(plan, thing):
    if not isinstance(thing, tuple) or len(thing) != 3:
        return False
    boxes, asked, counts = thing
    return are_below(boxes, plan.bounds) and is_within(asked, 0, plan.most_asked - 1) and are_below(counts, plan.turns)


def boxes_needed(term, owns):
    """How many boxes, from the first on, have to be known to know a term."""
    if term[0] == "box":
        return owns.index(term[1]) + 1
    return max([boxes_needed(part, owns) for part in term[1:] if isinstance(part, tuple)], default=0)


def all_begin(plan, needs, kept, boxes):
    """Whether all fillings that a run may begin with, and that begin with these boxes, are kept."""
    # Box by box, and no list of all: there may be millions. A saying that fails, or one that isn't kept, ends it early.
    for test, need in zip(plan.tests, needs):
        if need == len(boxes) and not test(boxes, 0, 0):
            return True
    if len(boxes) == len(plan.bounds):
        return all([(boxes, asked, plan.noughts) in kept for asked in range(plan.most_asked)])
    for number in range(plan.bounds[len(boxes)]):
        if not all_begin(plan, needs, kept, (*boxes, number)):
            return False
    return True


def leads_on(plans, plan, kept, place, filling):
    """Whether a filling leads to kept ones alone; at tell, and where home is come to, whether it keeps its word."""
    if plan.steps[place][0] == "tell":
        return not breaks_at(plan, place, filling)
    for there, then, given in moves(plans, plan, place, filling):
        if there == 0:
            if breaks_at(plan, 0, then):
                return False
        elif then not in kept[there]:
            return False
    return True
