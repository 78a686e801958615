"""What words mean, and which things are stands (points 11 and 13).

A row is what a stand has of a room: (place, counts, boxes, asked, told); so are the room's own words, put alike.
"""

from anystore.forms import is_within


def stand_of(program, words):
    """The stand that the words mean, None where they mean none."""
    plans = program.plans()
    return stand_told(plans, meant_rows(plans, parted(plans, words)))


def parted(plans, words):
    """The words, room by room."""
    rows = []
    at = 0
    for plan in plans:
        counts = at + 1
        boxes = counts + len(plan.mosts)
        end = boxes + len(plan.bounds)
        asked, told = (0, 0) if plan.at == 0 else words[end:end + 2]
        rows.append((words[at], tuple(words[counts:boxes]), tuple(words[boxes:end]), asked, told))
        at = end if plan.at == 0 else end + 2
    return tuple(rows)


def joined_words(rows):
    """The words of all rooms, as a machine has them."""
    found = []
    for at, (place, counts, boxes, asked, told) in enumerate(rows):
        found.append(place)
        found.extend(counts)
        found.extend(boxes)
        if at > 0:
            found.extend([asked, told])
    return tuple(found)


def meant_rows(plans, rows):
    return tuple([meant(plan, row) for plan, row in zip(plans, rows)])


def meant(plan, row):
    """What a room's own words mean, each by its rest."""
    place, counts, boxes, asked, told = row
    return (
        place % len(plan.steps),
        tuple([word % bound for bound, word in zip(plan.turns, counts)]),
        tuple([word % bound for bound, word in zip(plan.bounds, boxes)]),
        asked % plan.most_asked, told % plan.most_told)


def stand_told(plans, rows):
    """The stand of rooms that stand so, None where that is none (point 13)."""
    line = called(plans, rows)
    for plan, row in zip(plans, rows):
        if not stands_right(plan, row, plan.at in line):
            return None
    for above, beneath in zip(line, line[1:]):
        if not call_fits(plans, rows, above, beneath):
            return None
    return tuple([told_row(plan, row) for plan, row in zip(plans, rows)])


def called(plans, rows):
    """The numbers of the first room and of all that are called, each by the one ahead of it."""
    line = [0]
    step = plans[0].steps[rows[0][0]]
    while step[0] in ("ask", "clear"):
        number = step[1]
        line.append(number)
        step = plans[number].steps[rows[number][0]]
    return line


def stands_right(plan, row, is_called):
    """Whether a room stands as it may, whatever the others do, being called or not."""
    place = row[0]
    if place == 0:
        return plan.has_sayings(row[2])
    return is_called and plan.steps[place][0] != "again" and counts_fit(plan, row)


def counts_fit(plan, row):
    """Whether each count within its for's body is below its MOST."""
    place, counts = row[:2]
    # A check stands around itself, but not within its own body: its count may be the MOST.
    own = plan.around[place][-1:] if plan.steps[place][0] == "check" else ()
    return all([counts[number] < plan.mosts[number] for number in plan.around[place] if number not in own])


def call_fits(plans, rows, above, beneath):
    """Whether a called room stands where the one that calls it lets it stand."""
    row = rows[beneath]
    if row[0] == 0:
        return True
    step = plans[above].steps[rows[above][0]]
    if step[0] == "clear":
        return plans[beneath].steps[row[0]][0] == "told"
    return row[3] == number_asked(step, rows[above])


def number_asked(step, row):
    """What a room of this row asks, its step being an ask."""
    asking = step[4]
    return asking(row[2], row[3])


def told_row(plan, row):
    """What a stand tells of a room: 0 for counts, asked and told that mean nothing at its place."""
    place, counts, boxes, asked, told = row
    around = plan.around[place]
    kept = tuple([count if number in around else 0 for number, count in enumerate(counts)])
    if place == 0:
        return (place, kept, boxes, 0, 0)
    return (place, kept, boxes, asked, told if plan.steps[place][0] == "told" else 0)


def is_stand(plans, thing):
    """Whether any thing is a stand of the program of these plans."""
    if not isinstance(thing, tuple) or len(thing) != len(plans):
        return False
    if not all([row_fits(plan, row) for plan, row in zip(plans, thing)]):
        return False
    return stand_told(plans, thing) == thing


def row_fits(plan, row):
    """Whether any thing has the form of what a stand has of this room, all numbers below their bounds."""
    if not isinstance(row, tuple) or len(row) != 5:
        return False
    place, counts, boxes, asked, told = row
    return (
        is_within(place, 0, len(plan.steps) - 1)
        and are_below(counts, plan.turns) and are_below(boxes, plan.bounds)
        and is_within(asked, 0, plan.most_asked - 1) and is_within(told, 0, plan.most_told - 1))


def are_below(numbers, bounds):
    """Whether any thing is a tuple of numbers, one below each bound."""
    if not isinstance(numbers, tuple) or len(numbers) != len(bounds):
        return False
    return all([is_within(number, 0, bound - 1) for number, bound in zip(numbers, bounds)])
