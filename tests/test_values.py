"""Points [5] and [6]: the values of expressions, which conditions hold, and the names in them."""

import unittest

from neverleaves.expressions import holds, names_in, value_of
from tests.samples import FALSE, ONE, TRUE, X, Y, deep_condition, deep_expression, places

BIG = 10 ** 400 + 7
VALUES = {"x": 5, "y": -3, "xx": 100, "never": -999}


def number(value):
    return ("number", value)


class Values(unittest.TestCase):
    def value(self, expected, expression, values=VALUES):
        with self.subTest(expression):
            found = value_of(expression, values)
            self.assertEqual(found, expected)
            self.assertIs(type(found), int)

    def test_numbers_and_names(self):
        for n in (0, 1, -1, 17, BIG, -BIG):
            self.value(n, number(n))
        self.value(5, X)
        self.value(-3, Y)
        self.value(100, ("name", "xx"))
        self.value(BIG, X, {"x": BIG})
        self.value(0, X, {"x": 0, "y": 4})

    def test_sum_difference_and_product(self):
        self.value(2, ("add", X, Y))
        self.value(8, ("sub", X, Y))
        self.value(-8, ("sub", Y, X))
        self.value(-15, ("mul", X, Y))
        self.value(9, ("mul", Y, Y))
        self.value(0, ("mul", Y, number(0)))

    def test_least_greatest_and_absolute(self):
        self.value(-3, ("min", X, Y))
        self.value(-3, ("min", Y, X))
        self.value(5, ("max", X, Y))
        self.value(5, ("max", Y, X))
        self.value(5, ("min", X, X))
        self.value(5, ("max", X, X))
        self.value(3, ("abs", Y))
        self.value(5, ("abs", X))
        self.value(0, ("abs", number(0)))

    def test_division_and_rest(self):
        for n, divisor, quotient, rest in (
            (7, 2, 3, 1), (-7, 2, -4, 1), (-8, 2, -4, 0), (-1, 3, -1, 2), (0, 3, 0, 0), (2, 3, 0, 2),
            (-3, 3, -1, 0), (9, 1, 9, 0), (-9, 1, -9, 0), (-1, BIG, -1, BIG - 1), (BIG, BIG, 1, 0),
            (-BIG, 10, -(10 ** 399) - 1, 3), (BIG, 10, 10 ** 399, 7),
        ):
            self.value(quotient, ("div", number(n), divisor))
            self.value(rest, ("mod", number(n), divisor))

    def test_division_and_rest_belong_together(self):
        for n in range(-25, 26):
            for divisor in range(1, 9):
                quotient = value_of(("div", number(n), divisor), {})
                rest = value_of(("mod", number(n), divisor), {})
                self.assertTrue(0 <= rest < divisor)
                self.assertEqual(quotient * divisor + rest, n)

    def test_the_example_of_the_document(self):
        self.value(-3, ("div", ("sub", X, number(8)), 3), {"x": 1})

    def test_if_with_each_of_its_two(self):
        self.value(5, ("if", TRUE, X, Y))
        self.value(-3, ("if", FALSE, X, Y))
        self.value(5, ("if", ("less", Y, X), X, Y))
        self.value(-3, ("if", ("less", X, Y), X, Y))
        self.value(1, ("if", ("equal", X, number(5)), ONE, number(2)))
        self.value(2, ("if", ("equal", X, number(6)), ONE, number(2)))

    def test_integers_of_hundreds_of_digits(self):
        self.value(2 * BIG, ("add", number(BIG), number(BIG)))
        self.value(-1, ("sub", number(BIG), number(BIG + 1)))
        self.value(BIG * BIG, ("mul", X, X), {"x": BIG})
        self.value(BIG, ("abs", number(-BIG)))
        self.value(BIG, ("min", number(BIG + 1), number(BIG)))
        self.value(BIG + 1, ("max", number(BIG + 1), number(BIG)))
        self.value(BIG ** 4, ("mul", ("mul", X, X), ("mul", X, X)), {"x": BIG})

    def test_whole_expressions(self):
        expression = ("add", ("mul", X, ("sub", Y, ONE)), ("mod", ("abs", Y), 2))
        self.value(-19, expression)
        self.value(5, deep_expression(12), {"x": -5})
        self.value(8, ("max", ("if", ("not", ("less", X, Y)), ("sub", X, Y), X), ("div", X, 2)))


class Conditions(unittest.TestCase):
    def holds(self, expected, condition, values=VALUES):
        with self.subTest(condition):
            self.assertIs(holds(condition, values), expected)

    def test_true_and_false(self):
        self.holds(True, TRUE, {})
        self.holds(False, FALSE, {})

    def test_less(self):
        for low, high, expected in ((1, 2, True), (2, 2, False), (3, 2, False), (-3, -2, True), (-1, -2, False),
                                    (BIG, BIG + 1, True), (BIG, BIG, False)):
            self.holds(expected, ("less", number(low), number(high)))
        self.holds(True, ("less", Y, X))
        self.holds(False, ("less", X, Y))

    def test_equal(self):
        for first, second, expected in ((1, 2, False), (2, 2, True), (3, 2, False), (-2, 2, False), (0, 0, True),
                                        (BIG, BIG + 1, False), (BIG, BIG, True)):
            self.holds(expected, ("equal", number(first), number(second)))
        self.holds(True, ("equal", X, number(5)))

    def test_not(self):
        self.holds(False, ("not", TRUE))
        self.holds(True, ("not", FALSE))
        self.holds(True, ("not", ("less", X, Y)))
        self.holds(False, deep_condition(12))
        self.holds(True, deep_condition(11))

    def test_all_and_any(self):
        self.holds(True, ("all", ()))
        self.holds(False, ("any", ()))
        for parts, every, some in (
            ((TRUE,), True, True), ((FALSE,), False, False),
            ((TRUE, TRUE, TRUE), True, True), ((FALSE, FALSE, FALSE), False, False),
            ((FALSE, TRUE, TRUE), False, True), ((TRUE, FALSE, TRUE), False, True), ((TRUE, TRUE, FALSE), False, True),
            ((TRUE, FALSE, FALSE), False, True), ((FALSE, TRUE, FALSE), False, True),
            ((FALSE, FALSE, TRUE), False, True),
        ):
            self.holds(every, ("all", parts))
            self.holds(some, ("any", parts))

    def test_conditions_in_conditions(self):
        self.holds(True, ("all", (("any", (FALSE, ("less", Y, X))), ("not", ("any", ())))))
        self.holds(False, ("any", (("all", (TRUE, ("less", X, Y))), ("not", ("all", ())))))
        self.holds(True, ("equal", ("if", ("any", ()), X, Y), number(-3)))


class NamesIn(unittest.TestCase):
    def names(self, expected, whole):
        with self.subTest(whole):
            found = names_in(whole)
            self.assertEqual(found, expected)
            self.assertIs(type(found), tuple)

    def test_none(self):
        self.names((), number(3))
        self.names((), TRUE)
        self.names((), FALSE)
        self.names((), ("all", ()))
        self.names((), ("any", ()))
        self.names((), ("div", number(3), 2))
        self.names((), ("less", number(3), number(4)))

    def test_alphabetical_order_without_duplicates(self):
        self.names(("x",), X)
        self.names(("x",), ("add", X, X))
        self.names(("x", "y"), ("add", Y, X))
        self.names(("x", "y"), ("sub", ("add", X, Y), ("mul", Y, X)))
        self.names(("a", "b", "c"), ("if", ("less", ("name", "c"), ONE), ("name", "b"), ("name", "a")))
        self.names(("a", "c"), ("all", (("less", ("name", "c"), ONE), ("equal", ONE, ("name", "a")), TRUE)))

    def test_a_name_that_begins_another_comes_first(self):
        names = ("x", "xa", "xaa", "xab", "xb", "y", "z")
        conditions = tuple(("less", ("name", name), ("name", name)) for name in names[::-1])
        self.names(names, ("any", conditions))
        self.names(names, ("all", conditions[3:] + conditions[:3]))

    def test_length_does_not_count(self):
        self.names(("abc", "b"), ("add", ("name", "b"), ("name", "abc")))

    def test_at_every_place(self):
        for inner, _, build in places():
            part = X if inner == "expression" else ("less", Y, X)
            self.names(("x",) if inner == "expression" else ("x", "y"), build(part))

    def test_divisors_and_words_are_no_names(self):
        self.names(("number",), ("mod", ("name", "number"), 7))
        self.names(("x",), ("if", ("not", FALSE), ("max", X, ONE), ("min", ONE, X)))


if __name__ == "__main__":
    unittest.main()
