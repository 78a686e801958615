"""What an expression is worth, and whether a test holds (point 4)."""


def plus(left, right):
    return left + right


def less(left, right):
    if left < right:
        return 0
    return left - right


def times(left, right):
    return left * right


def over(left, right):
    if right == 0:
        return 0
    return left // right


def rest(left, right):
    if right == 0:
        return 0
    return left % right


DEEDS = {"plus": plus, "less": less, "times": times, "over": over, "rest": rest}


def worth(expression, boxes, *, asked=0, told=0):
    """The number that an expression comes to by the boxes' numbers and those asked and told."""
    kind = expression[0]
    if kind == "number":
        return expression[1]
    if kind == "box":
        return boxes[expression[1]]
    if kind == "asked":
        return asked
    if kind == "told":
        return told
    deed = DEEDS[kind]
    left = worth(expression[1], boxes, asked=asked, told=told)
    right = worth(expression[2], boxes, asked=asked, told=told)
    return deed(left, right)


def holds(test, boxes, *, asked=0, told=0):
    """Whether a test holds by the boxes' numbers and those asked and told."""
    kind = test[0]
    if kind == "not":
        return not holds(test[1], boxes, asked=asked, told=told)
    if kind in ("both", "either"):
        first = holds(test[1], boxes, asked=asked, told=told)
        second = holds(test[2], boxes, asked=asked, told=told)
        return (first and second) if kind == "both" else (first or second)
    left = worth(test[1], boxes, asked=asked, told=told)
    right = worth(test[2], boxes, asked=asked, told=told)
    return left == right if kind == "is" else left < right
