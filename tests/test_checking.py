"""Points [4] to [7]: names, depth, and which expressions and conditions are valid."""

import unittest

from neverleaves import errors
from neverleaves.errors import ControlError, InvalidExpression
from neverleaves.expressions import check_condition, check_expression
from tests.samples import (
    FALSE, ONE, TRUE, WORDS, WRITTEN_CONDITIONS, WRITTEN_EXPRESSIONS, X, Y, deep, deep_condition,
    deep_expression, places, tree,
)

LETTERS = "abcdefghijklmnopqrstuvwxyz"
HUGE = 10 ** 5000
CHECKS = {"expression": check_expression, "condition": check_condition}


class Checking(unittest.TestCase):
    def valid(self, kind, whole):
        self.assertIsNone(CHECKS[kind](whole))

    def invalid(self, kind, whole):
        with self.assertRaises(InvalidExpression) as caught:
            CHECKS[kind](whole)
        self.assertIs(type(caught.exception), InvalidExpression)


class Kinds(Checking):
    def test_valid_ones_of_every_kind(self):
        for expression, _ in WRITTEN_EXPRESSIONS:
            with self.subTest(expression):
                self.valid("expression", expression)
        for condition, _ in WRITTEN_CONDITIONS:
            with self.subTest(condition):
                self.valid("condition", condition)

    def test_integers_of_any_size(self):
        for number in (0, -1, HUGE, -HUGE):
            self.valid("expression", ("number", number))
            self.valid("condition", ("less", ("number", number), X))

    def test_all_and_any_of_nothing(self):
        self.valid("condition", ("all", ()))
        self.valid("condition", ("any", ()))
        self.valid("expression", ("if", ("all", ()), X, Y))
        self.valid("condition", ("not", ("any", ())))

    def test_very_many_parts_side_by_side(self):
        self.valid("condition", ("all", (("less", X, ONE),) * 95))
        self.invalid("condition", ("all", (("less", X, ONE),) * 95 + (("less", X, ("name", "")),)))

    def test_the_error_is_a_control_error_and_a_value_error_and_no_other(self):
        with self.assertRaises(InvalidExpression) as caught:
            check_expression(("name", ""))
        self.assertIsInstance(caught.exception, ControlError)
        self.assertIsInstance(caught.exception, ValueError)
        for name in ("InvalidPlant", "InvalidArena", "InvalidGoal", "BadText", "NoPosition",
                     "Held", "NotHeld", "BadReply", "Lost"):
            self.assertNotIsInstance(caught.exception, getattr(errors, name))


class Names(Checking):
    def name(self, right, name):
        with self.subTest(name=name):
            test = self.valid if right else self.invalid
            test("expression", ("name", name))
            test("condition", ("equal", ONE, ("name", name)))

    def test_letters_make_names(self):
        for name in ("a", "z", "x", LETTERS, LETTERS[::-1], "aa", "q" * 2000):
            self.name(True, name)

    def test_the_empty_string_is_no_name(self):
        self.name(False, "")

    def test_each_single_character(self):
        for code in range(128):
            self.name(chr(code) in LETTERS, chr(code))

    def test_each_character_at_each_place_among_letters(self):
        for code in range(128):
            for name in ("{}qq", "q{}q", "qq{}"):
                self.name(chr(code) in LETTERS, name.format(chr(code)))

    def test_the_sixteen_words_are_no_names(self):
        self.assertEqual(len(set(WORDS)), 16)
        for word in WORDS:
            self.name(False, word)

    def test_what_only_begins_or_ends_with_a_word_is_a_name(self):
        for word in WORDS:
            for name in (word + "x", "x" + word, word + word, word + "a", word[:-1] + "zz", "z" + word[1:]):
                self.name(True, name)

    def test_words_of_tuples_and_of_plant_texts_are_names(self):
        for name in ("number", "name", "state", "input", "noise", "next", "allow", "out", "stay"):
            self.name(True, name)


class Divisors(Checking):
    def test_from_one_on(self):
        for word in ("div", "mod"):
            for divisor in (1, 2, 3, 7, 10 ** 60, HUGE):
                self.valid("expression", (word, X, divisor))

    def test_less_than_one(self):
        for word in ("div", "mod"):
            for divisor in (0, -1, -2, -10 ** 60, -HUGE):
                self.invalid("expression", (word, X, divisor))
                self.invalid("condition", ("less", ("abs", (word, X, divisor)), X))


class Depth(Checking):
    def test_twelve_is_valid_and_thirteen_is_not(self):
        for depth in (1, 2, 11, 12):
            self.valid("expression", deep_expression(depth))
            self.valid("condition", deep_condition(depth))
        for depth in (13, 14, 50, 99, 100):
            self.invalid("expression", deep_expression(depth))
            self.invalid("condition", deep_condition(depth))

    def test_the_depth_counts_through_every_place(self):
        for inner, outer, build in places():
            for deeper in (1, 2, 88):
                with self.subTest(build(deep(inner, 2)), deeper=deeper):
                    self.valid(outer, build(deep(inner, 11)))
                    self.invalid(outer, build(deep(inner, 11 + deeper)))

    def test_all_and_any_of_nothing_have_a_depth_of_one(self):
        for leaf in (("all", ()), ("any", ()), TRUE, FALSE):
            self.valid("condition", deep_condition(12, leaf))
            self.invalid("condition", deep_condition(13, leaf))

    def test_leaves_of_expressions_have_a_depth_of_one(self):
        for leaf in (("number", 5), X):
            self.valid("expression", deep_expression(12, leaf))
            self.invalid("expression", deep_expression(13, leaf))

    def test_the_greatest_depth_counts(self):
        self.valid("expression", ("add", deep_expression(3), deep_expression(11)))
        self.invalid("expression", ("add", deep_expression(3), deep_expression(12)))
        self.invalid("expression", ("add", deep_expression(12), deep_expression(3)))
        self.valid("condition", ("all", (deep_condition(11), TRUE, deep_condition(11))))
        self.invalid("condition", ("all", (TRUE, deep_condition(12), TRUE)))

    def test_expressions_and_conditions_in_turns(self):
        whole = ONE
        for _ in range(5):
            whole = ("if", ("less", whole, ONE), ONE, ONE)
        self.valid("expression", whole)
        self.valid("condition", ("less", whole, ONE))
        self.invalid("condition", ("not", ("less", whole, ONE)))
        self.invalid("expression", ("if", ("less", whole, ONE), ONE, ONE))


class OneWrongPart(Checking):
    WRONG = (("name", "X"), ("name", ""), ("name", "min"), ("div", X, 0), ("mod", ONE, -1), deep_expression(100))

    def test_at_every_place_of_every_kind(self):
        for inner, outer, build in places():
            for wrong in self.WRONG:
                part = wrong if inner == "expression" else ("less", ONE, wrong)
                with self.subTest(build(part)):
                    self.invalid(outer, build(part))

    def test_among_many_right_ones(self):
        right = [("name", "v" + letter) for letter in LETTERS] * 4
        self.valid("expression", tree(right))
        for wrong in self.WRONG:
            for place in range(len(right)):
                self.invalid("expression", tree(right[:place] + [wrong] + right[place + 1:]))

    def test_behind_a_choice_that_is_never_taken(self):
        self.invalid("expression", ("if", TRUE, X, ("name", "Y")))
        self.invalid("expression", ("if", FALSE, ("name", "Y"), X))
        self.invalid("condition", ("any", (TRUE, ("less", X, ("name", "Y")))))
        self.invalid("condition", ("all", (FALSE, ("less", X, ("name", "Y")))))


if __name__ == "__main__":
    unittest.main()
