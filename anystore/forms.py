"""Whether any things are names, expressions, tests and bodies of the right form (points 2, 4 and 6)."""

from anystore.terms import DEEDS

LETTERS = "abcdefghijklmnopqrstuvwxyz"
KEPT_WORDS = ("asked", "told", "not", "and", "or")
MOST_DEEP_TERM = 5
MOST_TERMS = 16
MOST_DEEP_STEP = 4
MOST_STEPS = 30
MOST_IN_BODY = 12


def is_whole(thing):
    return isinstance(thing, int) and not isinstance(thing, bool)


def is_within(thing, least, most):
    return is_whole(thing) and least <= thing <= most


def is_name(thing):
    if not isinstance(thing, str) or not 1 <= len(thing) <= 8:
        return False
    return thing not in KEPT_WORDS and all([sign in LETTERS for sign in thing])


def is_expression(thing, boxes, words):
    """Whether it is an expression of these boxes, and of asked and told where words have them."""
    return expression_fits(thing, boxes, words, MOST_DEEP_TERM) and count_terms(thing) <= MOST_TERMS


def is_test(thing, boxes, words):
    """Whether it is a test of these boxes, and of asked and told where words have them."""
    return test_fits(thing, boxes, words, MOST_DEEP_TERM) and count_terms(thing) <= MOST_TERMS


def expression_fits(thing, boxes, words, deep):
    """The same, by the form alone, with at most so many within one another."""
    if not is_row(thing) or deep == 0:
        return False
    kind = thing[0]
    # All is looked for in lists and tuples: any thing may stand here, also one that is no key.
    if kind == "number":
        return len(thing) == 2 and is_within(thing[1], 0, 999)
    if kind == "box":
        return len(thing) == 2 and thing[1] in boxes
    if kind in list(DEEDS):
        return len(thing) == 3 and all([expression_fits(part, boxes, words, deep - 1) for part in thing[1:]])
    return len(thing) == 1 and kind in words


def test_fits(thing, boxes, words, deep):
    """The same, by the form alone, with at most so many within one another."""
    if not is_row(thing) or deep == 0:
        return False
    kind = thing[0]
    if kind in ("is", "below"):
        return len(thing) == 3 and all([expression_fits(part, boxes, words, deep - 1) for part in thing[1:]])
    if kind == "not":
        return len(thing) == 2 and test_fits(thing[1], boxes, words, deep - 1)
    if kind in ("both", "either"):
        return len(thing) == 3 and all([test_fits(part, boxes, words, deep - 1) for part in thing[1:]])
    return False


def is_row(thing):
    return isinstance(thing, tuple) and len(thing) > 0


def count_terms(term):
    """How many expressions and tests stand in one that fits, itself counted."""
    return 1 + sum([count_terms(part) for part in term[1:] if isinstance(part, tuple)])


def is_body(thing, boxes, words, beneath):
    """Whether it is a body of these boxes, of asked where words have it, calling rooms of these names."""
    return body_fits(thing, boxes, words, beneath, MOST_DEEP_STEP) and len(all_steps(thing)) <= MOST_STEPS


def body_fits(thing, boxes, words, beneath, deep):
    """The same, by the form alone, with at most so many steps within one another."""
    if not isinstance(thing, tuple) or len(thing) > MOST_IN_BODY:
        return False
    if deep == 0:
        return len(thing) == 0
    return all([step_fits(step, boxes, words, beneath, deep) for step in thing])


def step_fits(step, boxes, words, beneath, deep):
    if not is_row(step):
        return False
    kind = step[0]
    if kind == "if":
        return len(step) == 4 and is_test(step[1], boxes, words) and all(
            [body_fits(body, boxes, words, beneath, deep - 1) for body in step[2:]])
    if kind == "for":
        return len(step) == 4 and is_expression(step[1], boxes, words) and is_within(step[2], 1, 9) and (
            body_fits(step[3], boxes, words, beneath, deep - 1))
    if kind == "call":
        return len(step) == 4 and step[1] in boxes and step[2] in beneath and is_expression(step[3], boxes, words)
    if kind == "hear":
        return len(step) == 2 and step[1] in boxes
    if kind in ("set", "say"):
        return len(step) == 3 and step[1] in boxes and is_expression(step[2], boxes, words)
    return False


def all_steps(body):
    """The steps of a body and of those within it, as they are written."""
    steps = []
    for step in body:
        steps.append(step)
        for inner in bodies_within(step):
            steps.extend(all_steps(inner))
    return steps


def bodies_within(step):
    if step[0] == "if":
        return [step[2], step[3]]
    if step[0] == "for":
        return [step[3]]
    return []
