"""Point [8]: the one written form."""

import unittest

from neverleaves.texts import read_condition, read_expression, write_condition, write_expression
from tests.samples import (
    TRUE, WRITTEN_CONDITIONS, WRITTEN_EXPRESSIONS, X, deep, deep_condition, deep_expression, places,
)


class Writing(unittest.TestCase):
    def test_expressions(self):
        for expression, text in WRITTEN_EXPRESSIONS:
            with self.subTest(text):
                self.assertEqual(write_expression(expression), text)

    def test_conditions(self):
        for condition, text in WRITTEN_CONDITIONS:
            with self.subTest(text):
                self.assertEqual(write_condition(condition), text)

    def test_the_greatest_depth(self):
        self.assertEqual(write_expression(deep_expression(12)), "abs(" * 11 + "x" + ")" * 11)
        self.assertEqual(write_condition(deep_condition(12)), "not(" * 11 + "true" + ")" * 11)

    def test_many_conditions_side_by_side(self):
        condition = ("all", (TRUE, ("less", X, ("number", -1))) * 40)
        self.assertEqual(write_condition(condition), "all(" + ", ".join(["true", "less(x, -1)"] * 40) + ")")


class ReadingBack(unittest.TestCase):
    def test_all_samples(self):
        for expression, _ in WRITTEN_EXPRESSIONS:
            self.assertEqual(repr(read_expression(write_expression(expression))), repr(expression))
        for condition, _ in WRITTEN_CONDITIONS:
            self.assertEqual(repr(read_condition(write_condition(condition))), repr(condition))

    def test_every_place_with_every_depth(self):
        for inner, outer, build in places():
            for depth in range(1, 12):
                whole = build(deep(inner, depth))
                with self.subTest(whole):
                    if outer == "expression":
                        self.assertEqual(repr(read_expression(write_expression(whole))), repr(whole))
                    else:
                        self.assertEqual(repr(read_condition(write_condition(whole))), repr(whole))


if __name__ == "__main__":
    unittest.main()
