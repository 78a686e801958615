"""What an expression is worth, and whether a test holds (point 4)."""


def plus(left, right):
    return left + right


def less(left, right):
    if left < right:
        return 0
    return left - right


def times(left, right):
    return left * right


def over(left, right):
    if right == 0:
        return 0
    return left // right


def rest(left, right):
    if right == 0:
        return 0
    return left % right


DEEDS = {"plus": plus, "less": less, "times": times, "over": over, "rest": rest}


def worth(expression, boxes, *, asked=0, told=0):
    """The number that an expression comes to by the boxes' numbers and those asked and told."""
    worth_by = ready_worth(expression, list(boxes))
    return worth_by(list(boxes.values()), asked, told)


def holds(test, boxes, *, asked=0, told=0):
    """Whether a test holds by the boxes' numbers and those asked and told."""
    holds_by = ready_test(test, list(boxes))
    return holds_by(list(boxes.values()), asked, told)


def ready_worth(expression, owns):
    """A def that tells the worth by the numbers of the boxes so called, in this order, and by those asked and told."""
    kind = expression[0]
    if kind == "number":
        number = expression[1]
        return lambda boxes, asked, told: number
    if kind == "box":
        at = owns.index(expression[1])
        return lambda boxes, asked, told: boxes[at]
    if kind == "asked":
        return lambda boxes, asked, told: asked
    if kind == "told":
        return lambda boxes, asked, told: told
    deed = DEEDS[kind]
    left = ready_worth(expression[1], owns)
    right = ready_worth(expression[2], owns)
    return lambda boxes, asked, told: deed(left(boxes, asked, told), right(boxes, asked, told))


def ready_test(test, owns):
    """A def that tells whether the test holds, by what ready_worth's is told by."""
    kind = test[0]
    if kind == "not":
        inner = ready_test(test[1], owns)
        return lambda boxes, asked, told: not inner(boxes, asked, told)
    if kind in ("is", "below"):
        return ready_comparison(kind, ready_worth(test[1], owns), ready_worth(test[2], owns))
    first = ready_test(test[1], owns)
    second = ready_test(test[2], owns)
    if kind == "both":
        return lambda boxes, asked, told: first(boxes, asked, told) and second(boxes, asked, told)
    return lambda boxes, asked, told: first(boxes, asked, told) or second(boxes, asked, told)


def ready_comparison(kind, left, right):
    if kind == "is":
        return lambda boxes, asked, told: left(boxes, asked, told) == right(boxes, asked, told)
    return lambda boxes, asked, told: left(boxes, asked, told) < right(boxes, asked, told)
