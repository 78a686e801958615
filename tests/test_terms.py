"""Points 2 and 4: worth and holds."""

import unittest

from anystore.terms import holds, worth
from tests.samples import ASKED, TOLD

MANY = 999999
BOXES = {"a": 7, "b": 7, "zero": 0, "many": MANY, "most": MANY - 1, "tolds": 5, "ask": 6, "nots": 4}


def number(n):
    return ("number", n)


def box(name):
    return ("box", name)


YES = ("is", number(3), number(3))
NO = ("is", number(3), number(4))


class WorthTest(unittest.TestCase):
    def check(self, expression, wanted, **more):
        told = worth(expression, BOXES, **more)
        self.assertEqual(told, wanted)
        self.assertIs(type(told), int)

    def test_numbers(self):
        for n in (0, 1, 10, 998, 999):
            self.check(number(n), n)

    def test_boxes(self):
        for name, n in BOXES.items():
            self.check(box(name), n)

    def test_asked_and_told(self):
        self.check(ASKED, 0)
        self.check(TOLD, 0)
        self.check(ASKED, 0, told=9)
        self.check(TOLD, 0, asked=9)
        self.check(ASKED, 8, asked=8, told=9)
        self.check(TOLD, 9, asked=8, told=9)
        self.check(TOLD, MANY, told=MANY)

    def deed(self, kind, first, second, wanted):
        self.check((kind, number(first), number(second)), wanted)
        told = worth((kind, box("p"), ASKED), {"p": first}, asked=second)
        self.assertEqual(told, wanted)
        self.assertIs(type(told), int)

    def test_plus(self):
        self.deed("plus", 3, 4, 7)
        self.deed("plus", 0, 0, 0)
        self.deed("plus", 999, 999, 1998)
        self.check(("plus", box("many"), box("many")), 1999998)

    def test_less(self):
        self.deed("less", 4, 3, 1)
        self.deed("less", 3, 4, 0)
        self.deed("less", 3, 3, 0)
        self.deed("less", 0, 999, 0)
        self.deed("less", 999, 0, 999)
        self.check(("less", box("most"), box("many")), 0)
        self.check(("less", box("many"), box("most")), 1)

    def test_times(self):
        self.deed("times", 3, 4, 12)
        self.deed("times", 0, 999, 0)
        self.deed("times", 999, 999, 998001)
        self.check(("times", box("many"), box("many")), MANY * MANY)

    def test_over(self):
        self.deed("over", 7, 2, 3)
        self.deed("over", 2, 7, 0)
        self.deed("over", 8, 2, 4)
        self.deed("over", 7, 0, 0)
        self.deed("over", 0, 0, 0)
        self.deed("over", 0, 5, 0)
        self.check(("over", box("many"), number(1)), MANY)

    def test_rest(self):
        self.deed("rest", 7, 2, 1)
        self.deed("rest", 2, 7, 2)
        self.deed("rest", 8, 2, 0)
        self.deed("rest", 7, 0, 0)
        self.deed("rest", 0, 0, 0)
        self.check(("rest", box("many"), number(10)), 9)

    def test_the_first_stands_first(self):
        self.check(("less", ("less", number(9), number(4)), number(2)), 3)
        self.check(("less", number(9), ("less", number(4), number(2))), 7)
        self.check(("over", number(9), ("over", number(9), number(3))), 3)

    def test_asked_and_told_reach_the_innermost(self):
        deep = ("plus", ("times", ASKED, number(10)), ("less", TOLD, ("rest", ASKED, TOLD)))
        self.check(deep, 43, asked=4, told=7)

    def test_five_within_one_another(self):
        deep = number(1)
        for kind in ("plus", "times", "plus", "times"):
            deep = (kind, deep, number(3))
        self.check(deep, 45)
        deep = box("a")
        for kind in ("plus", "times", "less", "over"):
            deep = (kind, number(100), deep)
        # 107, 10700, 0, and by 0
        self.check(deep, 0)

    def test_fifteen_and_sixteen_in_all(self):
        def tree(deep):
            return number(1) if deep == 0 else ("plus", tree(deep - 1), tree(deep - 1))
        self.check(tree(3), 8)
        self.assertIs(holds(("is", tree(2), ("plus", tree(1), tree(1))), {}), True)
        self.assertIs(holds(("not", ("is", tree(2), ("plus", tree(1), ("plus", number(1), number(1))))), {}), False)

    def test_somewhat_beyond_the_limits(self):
        deep = number(1)
        for k in range(30):
            deep = ("plus", deep, number(1000))
        self.check(deep, 30001)


class HoldsTest(unittest.TestCase):
    def check(self, test, wanted, **more):
        self.assertIs(holds(test, BOXES, **more), wanted)

    def test_is(self):
        self.check(("is", box("a"), box("b")), True)
        self.check(("is", box("a"), box("zero")), False)
        self.check(("is", box("zero"), number(0)), True)
        self.check(("is", box("many"), box("many")), True)
        self.check(("is", box("many"), box("most")), False)

    def test_below(self):
        self.check(("below", box("a"), box("b")), False)
        self.check(("below", box("zero"), box("a")), True)
        self.check(("below", box("a"), box("zero")), False)
        self.check(("below", box("zero"), box("zero")), False)
        self.check(("below", box("most"), box("many")), True)
        self.check(("below", box("many"), box("most")), False)

    def test_not(self):
        self.check(("not", YES), False)
        self.check(("not", NO), True)
        self.check(("not", ("not", YES)), True)

    def test_both(self):
        self.check(("both", YES, YES), True)
        self.check(("both", YES, NO), False)
        self.check(("both", NO, YES), False)
        self.check(("both", NO, NO), False)

    def test_either(self):
        self.check(("either", YES, YES), True)
        self.check(("either", YES, NO), True)
        self.check(("either", NO, YES), True)
        self.check(("either", NO, NO), False)

    def test_asked_and_told(self):
        self.check(("is", ASKED, number(0)), True)
        self.check(("is", TOLD, number(0)), True)
        self.check(("is", ASKED, number(4)), True, asked=4)
        self.check(("is", TOLD, number(4)), False, asked=4)
        self.check(("below", ASKED, TOLD), True, asked=4, told=5)
        self.check(("below", ASKED, TOLD), False, asked=5, told=5)

    def test_asked_and_told_reach_the_innermost(self):
        inner = ("is", ("plus", ASKED, TOLD), number(9))
        self.check(("not", ("both", ("either", NO, inner), YES)), False, asked=4, told=5)
        self.check(("not", ("both", ("either", NO, inner), YES)), True, asked=4, told=6)
        self.check(("either", NO, ("both", YES, inner)), True, asked=4, told=5)

    def test_five_within_one_another(self):
        deep = ("below", box("zero"), ("plus", box("zero"), number(1)))
        self.check(("not", ("both", YES, deep)), False)
        self.check(("not", ("both", NO, deep)), True)


class CallsTest(unittest.TestCase):
    def test_by_places_and_by_names(self):
        term = ("plus", box("a"), ("times", ASKED, TOLD))
        boxes = {"a": 1}
        self.assertEqual(worth(term, boxes, asked=2, told=3), 7)
        self.assertEqual(worth(told=3, asked=2, boxes=boxes, expression=term), 7)
        test = ("is", term, number(7))
        self.assertIs(holds(test, boxes, asked=2, told=3), True)
        self.assertIs(holds(told=3, asked=2, boxes=boxes, test=test), True)

    def test_behind_the_star_by_name_alone(self):
        with self.assertRaises(TypeError):
            worth(ASKED, {}, 1)
        with self.assertRaises(TypeError):
            holds(YES, {}, 1)

    def test_boxes_stay_as_they_were(self):
        boxes = dict(BOXES)
        worth(("plus", box("a"), ("rest", box("zero"), box("zero"))), boxes, asked=3)
        holds(("below", box("many"), box("zero")), boxes, told=3)
        self.assertEqual(list(boxes.items()), list(BOXES.items()))
