"""Programs read from their texts (point 8)."""

from anystore.errors import NoProgram, NoText
from anystore.forms import MOST_DEEP_STEP, is_expression, is_name, is_test
from anystore.programs import Program, Room
from anystore.writing import SIGNS

FIGURES = "0123456789"
MOST_FIGURES = 6

# What stands behind the first word of a line; the last part takes all words that are left.
PARTS = {
    "box": ("name", "number", "number"), "saying": ("test",), "asked": ("number",), "tells": ("number", "expression"),
    "promise": ("test",), "set": ("name", "expression"), "if": ("test",), "call": ("name", "name", "expression"),
    "hear": ("name",), "say": ("name", "expression"),
}
STEPS = ("set", "if", "for", "call", "hear", "say")

# Which lines may stand right behind which, in the first room and in others.
FIRST_ORDER = {
    "room": ("box", "saying", "step", "room"), "box": ("box", "saying", "step", "room"),
    "saying": ("saying", "step", "room"), "step": ("step", "else", "room"), "else": ("step",),
}
OTHER_ORDER = {
    "room": ("box", "saying", "asked"), "box": ("box", "saying", "asked"), "saying": ("saying", "asked"),
    "asked": ("tells",), "tells": ("promise", "step", "room"), "promise": ("step", "room"),
    "step": ("step", "else", "room"), "else": ("step",),
}


class Draft:
    """A room of which some lines have been read."""

    def __init__(self, name, above):
        self.name = name
        self.above = above
        self.boxes = []
        self.sayings = []
        self.ask = None
        self.told = None
        self.promise = None
        # The bodies in which the next step may stand, the room's own first, each within the one ahead of it.
        self.bodies = [[]]
        self.latest = "room"
        self.deepest = 0

    def may_follow(self, word):
        if self.above == "":
            return word in FIRST_ORDER[self.latest]
        return word in OTHER_ORDER[self.latest]

    def step_may_stand(self, blanks):
        if self.latest == "else":
            return blanks == len(self.bodies)
        return 1 <= blanks <= len(self.bodies)

    def else_may_stand(self, blanks):
        """Whether the last step that is so far in is an if without an else."""
        if not 1 <= blanks <= len(self.bodies) or len(self.bodies[blanks - 1]) == 0:
            return False
        step = self.bodies[blanks - 1][-1]
        return step[0] == "if" and len(step[3]) == 0

    def put_step(self, row, blanks):
        self.deepest = max(self.deepest, blanks)
        del self.bodies[blanks:]
        body = self.bodies[-1]
        if row[0] == "if":
            body.append(["if", row[1], [], []])
            self.bodies.append(body[-1][2])
        elif row[0] == "for":
            body.append(["for", row[1], row[2], []])
            self.bodies.append(body[-1][3])
        else:
            body.append(row)

    def put_else(self, blanks):
        del self.bodies[blanks:]
        self.bodies.append(self.bodies[-1][-1][3])

    def put_head(self, row):
        """A line ahead of the body's."""
        if row[0] == "box":
            self.boxes.append(row[1:])
        elif row[0] == "saying":
            self.sayings.append(row[1])
        elif row[0] == "asked":
            self.ask = row[1]
        elif row[0] == "tells":
            self.told = row[1:]
        else:
            self.promise = row[1]

    def made(self):
        return Room(
            self.name, above=self.above, boxes=tuple(self.boxes), sayings=tuple(self.sayings), ask=self.ask,
            told=self.told, promise=self.promise, body=closed(self.bodies[0]))


def closed(body):
    """The same body, of tuples alone."""
    return tuple([closed_step(step) for step in body])


def closed_step(step):
    if step[0] == "if":
        return ("if", step[1], closed(step[2]), closed(step[3]))
    if step[0] == "for":
        return ("for", step[1], step[2], closed(step[3]))
    return step


def read_program(text):
    if not isinstance(text, str):
        raise NoText(0)
    drafts = []
    for number, line in enumerate(text.split("\n"), start=1):
        told = line.lstrip(" ")
        blanks = len(line) - len(told)
        row = read_row(told)
        if row is None or not may_stand(drafts, row, blanks):
            raise NoText(number)
        put_row(drafts, row, blanks)
    return finished(drafts)


def finished(drafts):
    for draft in drafts:
        # What is too deep is no program; it is not even closed, so that a long text asks for no deep calls.
        if draft.latest == "else" or draft.deepest > MOST_DEEP_STEP:
            raise NoText(0)
    try:
        return Program(tuple([draft.made() for draft in drafts]))
    except NoProgram:
        raise NoText(0) from None


def place_word(kind):
    """The word by which the orders call a line of this kind."""
    return "step" if kind in STEPS else kind


def may_stand(drafts, row, blanks):
    """Whether a line may stand behind those of the drafts."""
    kind = row[0]
    if len(drafts) == 0:
        return kind == "room" and len(row) == 2 and blanks == 0
    draft = drafts[-1]
    if not draft.may_follow(place_word(kind)):
        return False
    if kind == "room":
        return len(row) == 3 and blanks == 0
    if kind == "else":
        return draft.else_may_stand(blanks)
    if kind in STEPS:
        return draft.step_may_stand(blanks)
    return blanks == 1


def put_row(drafts, row, blanks):
    """Put a line, which may stand there, to the drafts."""
    kind = row[0]
    if kind == "room":
        drafts.append(Draft(row[1], "" if len(row) == 2 else row[2]))
        return
    draft = drafts[-1]
    if kind == "else":
        draft.put_else(blanks)
    elif kind in STEPS:
        draft.put_step(row, blanks)
    else:
        draft.put_head(row)
    draft.latest = place_word(kind)


def read_row(line):
    """The first word of a line without its blanks ahead, and what the others tell; None of what is no line."""
    kind, *words = line.split(" ")
    if kind == "else":
        return ("else",) if len(words) == 0 else None
    if kind == "room":
        return read_room(words)
    if kind == "for":
        return read_for(words)
    if kind not in PARTS or len(words) < len(PARTS[kind]):
        return None
    last = len(PARTS[kind]) - 1
    texts = words[:last] + [" ".join(words[last:])]
    return row_of(kind, [read_part(form, text) for form, text in zip(PARTS[kind], texts)])


def read_room(words):
    if len(words) == 1:
        return row_of("room", [read_part("name", words[0])])
    if len(words) == 3 and words[1] == "in":
        return row_of("room", [read_part("name", words[0]), read_part("name", words[2])])
    return None


def read_for(words):
    if len(words) < 3 or words[-2] != "upto":
        return None
    return row_of("for", [read_part("expression", " ".join(words[:-2])), read_part("number", words[-1])])


def row_of(kind, parts):
    return None if None in parts else (kind, *parts)


def read_part(form, text):
    """What a part of this form tells, None where it isn't of it."""
    if form == "name":
        return text if is_name(text) else None
    if form == "number":
        return read_number(text)
    return read_term(form, text)


def read_number(text):
    if not 1 <= len(text) <= MOST_FIGURES or not all([sign in FIGURES for sign in text]):
        return None
    if text[0] == "0" and text != "0":
        return None
    return int(text)


def read_term(form, text):
    """An expression or a test, of any boxes, and of asked and told."""
    words = text.replace("(", "( ").replace(")", " )").split(" ")
    term = term_of(words)
    # All boxes of the term stand among its words, so these let each of them by.
    if form == "test":
        return term if is_test(term, words, ("asked", "told")) else None
    return term if is_expression(term, words, ("asked", "told")) else None


def term_of(words):
    """What the words make, whatever it is; None where they make nothing."""
    # A stack, and no calls within calls: a text may have brackets many thousand deep.
    rows = [[]]
    for word in words:
        if word == "(":
            rows.append([])
        elif word != ")":
            rows[-1].append(word)
        elif len(rows) == 1:
            return None
        else:
            parts = rows.pop()
            rows[-1].append(joined(parts))
    if len(rows) != 1 or len(rows[0]) != 1:
        return None
    return leaf(rows[0][0])


def joined(parts):
    """The term that stands in one pair of brackets."""
    if len(parts) == 2 and parts[0] == "not":
        return ("not", parts[1])
    if len(parts) != 3:
        return None
    kinds = [kind for kind in SIGNS if SIGNS[kind] == parts[1]]
    if len(kinds) == 0:
        return None
    return (kinds[0], leaf(parts[0]), leaf(parts[2]))


def leaf(part):
    """A word as a term; what is joined already stays as it is."""
    if not isinstance(part, str):
        return part
    if part in ("asked", "told"):
        return (part,)
    if is_name(part):
        return ("box", part)
    number = read_number(part)
    return None if number is None else ("number", number)
