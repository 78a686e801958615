"""The texts of expressions, tests (point 5) and programs (point 8)."""

SIGNS = {
    "plus": "+", "less": "-", "times": "*", "over": "//", "rest": "rest",
    "is": "==", "below": "<", "both": "and", "either": "or",
}


def expression_text(expression):
    kind = expression[0]
    if kind == "number":
        return str(expression[1])
    if kind == "box":
        return expression[1]
    if kind in ("asked", "told"):
        return kind
    return f"({expression_text(expression[1])} {SIGNS[kind]} {expression_text(expression[2])})"


def test_text(test):
    kind = test[0]
    if kind in ("is", "below"):
        return f"({expression_text(test[1])} {SIGNS[kind]} {expression_text(test[2])})"
    if kind == "not":
        return f"(not {test_text(test[1])})"
    return f"({test_text(test[1])} {SIGNS[kind]} {test_text(test[2])})"


def program_text(program):
    lines = []
    for room in program.rooms():
        lines.extend(head_lines(room))
        lines.extend(body_lines(room.body, " "))
    return "\n".join(lines)


def head_lines(room):
    """All lines of a room ahead of its body's."""
    first = room.above == ""
    lines = [f"room {room.name}" if first else f"room {room.name} in {room.above}"]
    for name, bound, number in room.boxes:
        lines.append(f" box {name} {bound} {number}")
    for saying in room.sayings:
        lines.append(f" saying {test_text(saying)}")
    if first:
        return lines
    bound, expression = room.told
    lines.append(f" asked {room.ask}")
    lines.append(f" tells {bound} {expression_text(expression)}")
    if room.promise is not None:
        lines.append(f" promise {test_text(room.promise)}")
    return lines


def body_lines(body, blanks):
    """The lines of a body's steps, each with these blanks ahead."""
    lines = []
    for step in body:
        lines.append(f"{blanks}{step_text(step)}")
        if step[0] == "if":
            lines.extend(body_lines(step[2], blanks + " "))
            if len(step[3]) > 0:
                lines.append(f"{blanks}else")
                lines.extend(body_lines(step[3], blanks + " "))
        if step[0] == "for":
            lines.extend(body_lines(step[3], blanks + " "))
    return lines


def step_text(step):
    """A step's own line, without the blanks ahead and without the steps within it."""
    kind = step[0]
    if kind == "if":
        return f"if {test_text(step[1])}"
    if kind == "for":
        return f"for {expression_text(step[1])} upto {step[2]}"
    if kind == "call":
        return f"call {step[1]} {step[2]} {expression_text(step[3])}"
    if kind == "hear":
        return f"hear {step[1]}"
    return f"{kind} {step[1]} {expression_text(step[2])}"
