"""Point [9]: reading with any spaces, and the first token that does not fit."""

import re
import unittest

from neverleaves.errors import BadText
from neverleaves.texts import read_condition, read_expression, write_condition, write_expression
from tests.samples import ONE, TRUE, WORDS, WRITTEN_CONDITIONS, WRITTEN_EXPRESSIONS, X, Y

READS = {"expression": read_expression, "condition": read_condition}


class Reading(unittest.TestCase):
    def reads(self, kind, text, expected):
        with self.subTest(text):
            self.assertEqual(repr(READS[kind](text)), repr(expected))

    def bad(self, kind, text, column):
        with self.subTest(text=text, kind=kind):
            with self.assertRaises(BadText) as caught:
                READS[kind](text)
            self.assertIs(type(caught.exception), BadText)
            self.assertEqual((caught.exception.line, caught.exception.column), (1, column))

    def bad_expression(self, text, column):
        """The text is wrong there; so it is in a condition, behind what stands before an expression."""
        self.bad("expression", text, column)
        self.bad("condition", "less(" + text, column + 5)
        self.bad("expression", "if(equal(7,  " + text, column + 13)

    def bad_condition(self, text, column):
        self.bad("condition", text, column)
        self.bad("expression", "if( " + text, column + 4)
        self.bad("condition", "any(not(true)," + text, column + 14)


class RightTexts(Reading):
    def test_written_forms(self):
        for expression, text in WRITTEN_EXPRESSIONS:
            self.reads("expression", text, expression)
        for condition, text in WRITTEN_CONDITIONS:
            self.reads("condition", text, condition)

    def test_no_one_and_many_spaces_at_every_place(self):
        samples = [("expression", *pair) for pair in WRITTEN_EXPRESSIONS]
        samples += [("condition", *pair) for pair in WRITTEN_CONDITIONS]
        for kind, whole, text in samples:
            tokens = re.findall(r"[a-z]+|-?[0-9]+|[(),]", text)
            for space in ("", " ", "  ", " " * 37):
                self.reads(kind, space.join(tokens), whole)
                self.reads(kind, space + space.join(tokens) + space, whole)
            for place in range(len(tokens) + 1):
                self.reads(kind, "".join(tokens[:place]) + "   " + "".join(tokens[place:]), whole)

    def test_the_examples_of_the_document(self):
        self.reads("condition", "all(less(x,3) , not(true))",
                   ("all", (("less", X, ("number", 3)), ("not", TRUE))))
        self.bad("expression", "add(x, )", 8)

    def test_integers(self):
        for text, n in (("0", 0), ("-1", -1), ("10", 10), ("100", 100), ("-10", -10), ("9" * 60, 10 ** 60 - 1),
                        ("-" + "9" * 60, 1 - 10 ** 60), ("1" + "0" * 59, 10 ** 59)):
            self.reads("expression", text, ("number", n))
            self.reads("expression", "add(" + text + ",x)", ("add", ("number", n), X))

    def test_divisors(self):
        for text, n in (("1", 1), ("2", 2), ("10", 10), ("9" * 60, 10 ** 60 - 1)):
            self.reads("expression", "div(x," + text + ")", ("div", X, n))
            self.reads("expression", "mod(x," + text + ")", ("mod", X, n))

    def test_each_letter(self):
        for letter in "abcdefghijklmnopqrstuvwxyz":
            self.reads("expression", letter, ("name", letter))
            self.reads("expression", f" {letter}z ", ("name", letter + "z"))
            self.reads("expression", f"add({letter}, {letter})", ("add", ("name", letter), ("name", letter)))

    def test_each_digit(self):
        for digit in "0123456789":
            self.reads("expression", digit, ("number", int(digit)))
            self.reads("expression", "-1" + digit, ("number", -10 - int(digit)))

    def test_names_that_begin_or_end_with_a_word(self):
        for word in WORDS:
            self.reads("expression", word + "x", ("name", word + "x"))
            self.reads("expression", "abs(x" + word + ")", ("abs", ("name", "x" + word)))

    def test_long_texts(self):
        many = ("all", (("less", X, ONE),) * 90)
        self.reads("condition", "all(" + ",".join(["less(x,1)"] * 90) + ")", many)
        self.reads("expression", "n" * 15000, ("name", "n" * 15000))
        self.reads("expression", " " * 9000 + "x" + " " * 9000, X)


class WrongTokens(Reading):
    def test_characters_that_begin_no_token(self):
        right = "abcdefghijklmnopqrstuvwxyz0123456789(), "
        for code in range(128):
            if chr(code) in right + "-\n":
                continue
            self.bad("expression", chr(code), 1)
            self.bad("condition", chr(code), 1)
            self.bad("expression", "add(x" + chr(code) + ", 3)", 6)
            self.bad("expression", "add(x, " + chr(code) + "3)", 8)
            self.bad("expression", "x " + chr(code), 3)
            self.bad("condition", "true" + chr(code), 5)

    def test_needless_zeros(self):
        for integer in ("00", "07", "-0", "-00", "-07", "000", "01", "0123456789", "0" * 60, "-0" + "1" * 70):
            self.bad_expression(integer, 1)
            self.bad_expression("add(x, " + integer + ")", 8)
            self.bad("expression", "div(x, " + integer + ")", 8)
            self.bad("expression", " mod(x,  " + integer + ")", 10)
            self.bad("condition", integer, 1)
            self.bad("expression", "x " + integer, 3)

    def test_too_many_digits(self):
        for integer in ("1" * 61, "9" * 61, "-" + "1" * 61, "1" + "0" * 60, "5" * 19000):
            self.bad_expression(integer, 1)
            self.bad_expression(" add(" + integer + ", x)", 6)
            self.bad("expression", "div(x, " + integer + ")", 8)
            self.bad("expression", "mod(x," + integer + ")", 7)

    def test_a_lone_minus(self):
        for text in ("-", "- 3", "--3", "-x", "-(3)", "- ", "-,", "-)"):
            self.bad_expression(text, 1)
            self.bad_expression("sub(y, " + text, 8)
            self.bad("condition", text, 1)
            self.bad("expression", "x" + text, 2)
            self.bad("expression", "div(x," + text, 7)

    def test_a_minus_between_two_integers_belongs_to_the_second(self):
        self.bad("expression", "3-4", 2)
        self.bad("expression", "add(3-4, 1)", 6)
        self.bad("expression", "add(3,-4-, 1)", 9)


class TokensThatDoNotFit(Reading):
    def test_words_that_begin_no_expression(self):
        for word in ("true", "false", "less", "equal", "not", "all", "any"):
            for rest in ("", "()", "(x, y)", "(x)", " "):
                self.bad_expression(word + rest, 1)
                self.bad_expression("  max( " + word + rest, 8)
                self.bad("expression", "if(true, " + word + rest, 10)

    def test_words_and_integers_that_begin_no_condition(self):
        for word in ("add", "sub", "mul", "div", "mod", "min", "max", "abs", "if", "x", "truex", "0", "-5", "12"):
            for rest in ("", "()", "(x, y)", " "):
                self.bad_condition(word + rest, 1)
                self.bad_condition(" not(" + word + rest, 6)
                self.bad_condition("all(true, " + word + rest, 11)

    def test_signs_that_begin_nothing(self):
        for sign in ("(", ")", ","):
            self.bad_expression(sign, 1)
            self.bad_condition(sign, 1)
            self.bad_expression("add(" + sign, 5)
            self.bad_expression("add(x, " + sign, 8)
            self.bad("expression", "div(x, " + sign, 8)
            self.bad_condition("not(" + sign, 5)
            self.bad_condition("any(true," + sign, 10)
            self.bad_condition("equal(" + sign, 7)

    def test_parentheses_are_due_behind_each_word(self):
        for word in WORDS:
            if word in ("true", "false"):
                continue
            bad = self.bad_condition if word in ("less", "equal", "not", "all", "any") else self.bad_expression
            for wrong in (")", ",", "x", "3", "true", "add", "?", "00"):
                bad(word + " " + wrong, len(word) + 2)
                bad(word + "  " + wrong + "(x, y)", len(word) + 3)

    def test_nothing_stands_behind_what_is_whole(self):
        for more in ("x", "3", "-3", "(", ")", ",", "true", "add", "?", "-", "00"):
            self.bad("expression", "x " + more, 3)
            self.bad("expression", "12  " + more, 5)
            self.bad("expression", "add(x, 3)" + more, 10)
            self.bad("expression", "div(x, 3) " + more, 11)
            self.bad("expression", "if(all(),x,y)" + more + " ?", 14)
            self.bad("condition", "true " + more, 6)
            self.bad("condition", "all() " + more, 7)
            self.bad("condition", "not(any(false))" + more + more, 16)

    def test_a_sign_that_is_not_due(self):
        self.bad_expression("add x, 3)", 5)
        self.bad_expression("add((x), 3)", 5)
        self.bad_expression("add(x 3)", 7)
        self.bad_expression("add(x)", 6)
        self.bad_expression("add(x, 3, 4)", 9)
        self.bad_expression("add(x,, 3)", 7)
        self.bad_expression("add(,x, 3)", 5)
        self.bad_expression("add()", 5)
        self.bad_expression("abs(x, y)", 6)
        self.bad_expression("abs()", 5)
        self.bad_expression("if(true)", 8)
        self.bad_expression("if(true, x)", 11)
        self.bad_expression("if(true, x, y, x)", 14)
        self.bad_expression("if(x, x, y)", 4)
        self.bad_expression("if(true, true, y)", 10)
        self.bad_expression("if(true, x, true)", 13)
        self.bad_expression("div(x)", 6)
        self.bad_expression("mod(x, 2, 2)", 9)
        self.bad("expression", "x(3)", 2)
        self.bad_expression("max(x(3), 3)", 6)
        self.bad_expression("min(3(x), 3)", 6)
        self.bad_condition("less(x)", 7)
        self.bad_condition("equal(x, y, x)", 11)
        self.bad_condition("less(true, y)", 6)
        self.bad_condition("not()", 5)
        self.bad_condition("not(true, true)", 9)
        self.bad_condition("not(x)", 5)
        self.bad_condition("all(,)", 5)
        self.bad_condition("all(true,)", 10)
        self.bad_condition("any(true false)", 10)
        self.bad_condition("any(true,,false)", 10)
        self.bad_condition("any(true, x)", 11)
        self.bad("condition", "true()", 5)
        self.bad_condition("all(true(), true)", 9)
        self.bad("condition", "false(", 6)

    def test_words_that_are_cut_by_a_space_or_a_digit(self):
        self.bad("expression", "ad d(x, y)", 4)
        self.bad("expression", "add2(x, y)", 4)
        self.bad("expression", "x1", 2)
        self.bad("expression", "1x", 2)
        self.bad("expression", "add(x, 1 2)", 10)
        self.bad("expression", "x y", 3)
        self.bad("condition", "tr ue", 1)
        self.bad("condition", "TRUE", 1)
        self.bad("condition", "True", 1)

    def test_the_first_token_that_does_not_fit_counts(self):
        self.bad("expression", "add(true, 00)", 5)
        self.bad("expression", "add(x 00, ?)", 7)
        self.bad("expression", "?add(x", 1)
        self.bad("expression", "div(00, 0)", 5)
        self.bad("expression", "div(x, 0", 8)
        self.bad("condition", "less(x, 3) ? 00", 12)


class Divisors(Reading):
    def test_what_is_no_integer_of_at_least_one(self):
        for divisor in ("0", "-1", "-2", "-" + "9" * 60, "x", "add", "true", "abs(2)", "(2)", "00", "-0", "02", "-",
                        "1" * 61, "?", ",", ")"):
            for word in ("div", "mod"):
                self.bad_expression(word + "(x, " + divisor + ")", 8)
                self.bad_expression(word + "( 5 ,  " + divisor + ")", 11)

    def test_an_integer_of_at_least_one_must_be_the_second(self):
        self.bad_expression("div(2, x)", 8)
        self.assertEqual(read_expression("div(-2, 2)"), ("div", ("number", -2), 2))


class TooEarlyAnEnd(Reading):
    def test_each_beginning_of_a_written_form(self):
        for kind, samples in (("expression", WRITTEN_EXPRESSIONS), ("condition", WRITTEN_CONDITIONS)):
            for _, text in samples:
                for end in range(len(text)):
                    # A name or an integer may be whole before it ends, as may a beginning of a word.
                    if "(" in text and text[end - 1:end] in ("(", ")", ",", " "):
                        self.bad(kind, text[:end], end + 1)
                        self.bad(kind, text[:end] + " ", end + 2)
                        self.bad(kind, "  " + text[:end] + "   ", end + 6)

    def test_behind_words_names_and_integers(self):
        for text in ("add", "add(x", "add(x, 3", "div(x", "div(x, 2", "abs(-3", "if", "if(true", "if(less(x, 3)", "if(all("):
            self.bad_expression(text, len(text) + 1)
            self.bad("expression", text + "  ", len(text) + 3)
        for text in ("less", "not(true", "all", "all(true", "any(true, false", "equal(x", "not(any("):
            self.bad_condition(text, len(text) + 1)
            self.bad("condition", text + " ", len(text) + 2)

    def test_the_empty_text_and_spaces_alone(self):
        for many in (0, 1, 2, 50):
            self.bad("expression", " " * many, many + 1)
            self.bad("condition", " " * many, many + 1)


class Depth(Reading):
    def test_a_depth_of_twelve(self):
        expression = read_expression("abs(" * 11 + "x" + ")" * 11)
        self.assertEqual(write_expression(expression), "abs(" * 11 + "x" + ")" * 11)
        condition = read_condition("not(" * 11 + "true" + ")" * 11)
        self.assertEqual(write_condition(condition), "not(" * 11 + "true" + ")" * 11)

    def test_the_first_token_at_a_depth_of_thirteen(self):
        deepest = "abs(" * 11
        for whole in ("x", "3", "-3", "add(x, y)", "div(x, 2)", "true", ")", ",", "(", "?", "00", ""):
            self.bad("expression", deepest + "abs(" + whole, 49)
            self.bad("expression", deepest + "add( " + whole, 50)
            self.bad("expression", deepest + "div(" + whole, 49)
            self.bad("expression", deepest + "if(" + whole, 48)
        deepest = "not(" * 11
        for whole in ("true", "all()", "any", "less(x, y)", "x", "(", ",", "?", "00", ""):
            self.bad("condition", deepest + "not(" + whole, 49)
            self.bad("condition", deepest + "all(" + whole, 49)
            self.bad("condition", deepest + "any( " + whole, 50)
            self.bad("condition", deepest + "less(" + whole, 50)
            self.bad("condition", deepest + "equal(" + whole, 51)
        self.bad("condition", deepest + "not()" + ")" * 11, 49)

    def test_a_word_at_a_depth_of_twelve_fits_and_so_does_its_parenthesis(self):
        for word in ("add", "sub", "mul", "div", "mod", "min", "max", "abs", "if"):
            self.bad("expression", "abs(" * 11 + word, 45 + len(word))
            self.bad("expression", "abs(" * 11 + word + "x", 45 + len(word) + 1)
            self.bad("expression", "abs(" * 11 + word + " x", 45 + len(word) + 1)
            self.bad("expression", "abs(" * 11 + word + " (", 45 + len(word) + 2)
        for word in ("less", "equal", "not", "all", "any"):
            self.bad("condition", "not(" * 11 + word, 45 + len(word))
            self.bad("condition", "not(" * 11 + word + " )", 45 + len(word) + 1)
            self.bad("condition", "not(" * 11 + word + "(", 45 + len(word) + 1)

    def test_all_and_any_of_nothing_at_a_depth_of_twelve(self):
        for word in ("all", "any"):
            expected = (word, ())
            for _ in range(11):
                expected = ("not", expected)
            self.reads("condition", "not(" * 11 + word + "( )" + ")" * 11, expected)
            self.bad("condition", "not(" * 12 + word + "()" + ")" * 12, 49)
            self.bad("condition", "not(" * 11 + word + "(true)" + ")" * 11, 49)

    def test_every_operand_counts(self):
        self.reads("expression", "abs(" * 9 + "add(x, abs(y))" + ")" * 9, self.deep(9, ("add", X, ("abs", Y))))
        self.reads("expression", "abs(" * 10 + "add(x, y)" + ")" * 10, self.deep(10, ("add", X, Y)))
        self.bad("expression", "abs(" * 10 + "add(x, abs(abs(y)))" + ")" * 10, 52)
        self.bad("expression", "abs(" * 10 + "if(true, x, abs(abs(y)))" + ")" * 10, 57)
        self.bad("expression", "abs(" * 10 + "if(not(not(true)), x, y)" + ")" * 10, 48)
        self.bad("condition", "not(" * 10 + "all(true, not(not(true)))" + ")" * 10, 55)
        self.bad("condition", "not(" * 10 + "less(x, abs(abs(x)))" + ")" * 10, 53)

    def test_the_divisor_has_no_depth(self):
        self.reads("expression", "abs(" * 10 + "mod(x, 2)" + ")" * 10, self.deep(10, ("mod", X, 2)))

    def test_a_very_deep_text(self):
        self.bad("expression", "abs(" * 4000 + "x" + ")" * 4000, 49)
        self.bad("condition", "all(" * 4000, 49)

    def deep(self, depth, whole):
        for _ in range(depth):
            whole = ("abs", whole)
        return whole


SIGNS = ("x", "1", "0", "true", "add", "abs", "div", "if", "less", "not", "all", "(", ")", ",", "?", "-")
PARTS = {
    "add": ["(", "expression", ",", "expression", ")"],
    "abs": ["(", "expression", ")"],
    "div": ["(", "expression", ",", "divisor", ")"],
    "if": ["(", "condition", ",", "expression", ",", "expression", ")"],
    "less": ["(", "expression", ",", "expression", ")"],
    "not": ["(", "condition", ")"],
    "all": ["(", "first"],
}


def after(due, sign):
    """What is due behind a sign, a list with what is due first at its end, or None if the sign does not fit.

    This tells again what fits, in another way than the program does: by a stack of what is due.
    """
    rest, (what, depth) = due[:-1], due[-1]
    if what == "first":
        return rest if sign == ")" else after(rest + [("more", depth), ("condition", depth)], sign)
    if what == "more":
        choices = {")": rest, ",": rest + [("more", depth), ("condition", depth)]}
        return choices.get(sign)
    if what == "divisor":
        return rest if sign == "1" else None
    if what not in ("expression", "condition"):
        return rest if sign == what else None
    leaves = ("x", "1", "0") if what == "expression" else ("true",)
    words = ("add", "abs", "div", "if") if what == "expression" else ("less", "not", "all")
    if depth > 12 or sign not in leaves + words:
        return None
    parts = PARTS.get(sign, [])
    return rest + [(part, depth + 1) for part in parts[::-1]]


class EveryRowOfTokens(Reading):
    def walk(self, kind, text, due, more):
        """Try every sign behind a text that fits so far, and go on behind those that fit."""
        for sign in SIGNS:
            column = len(text) + 1
            whole = text + sign + " "
            then = after(due, sign) if due else None
            if then is None:
                self.bad(kind, whole, column)
                continue
            if then:
                self.bad(kind, whole, len(whole) + 1)
            else:
                write = write_expression if kind == "expression" else write_condition
                self.assertEqual(write(READS[kind](whole)).replace(" ", ""), whole.replace(" ", ""))
            if more > 1:
                self.walk(kind, whole, then, more - 1)

    def test_short_rows(self):
        self.walk("expression", "", [("expression", 1)], 9)
        self.walk("condition", "", [("condition", 1)], 9)

    def test_short_rows_near_the_greatest_depth(self):
        for depth, many in ((9, 4), (10, 5), (11, 5)):
            text, due = "", [("condition", 1)]
            for sign in ("less", "(") + ("abs", "(") * (depth - 1):
                text, due = text + sign + " ", after(due, sign)
            self.walk("condition", text, due, many)
            text, due = "", [("expression", 1)]
            for sign in ("if", "(") + ("not", "(") * (depth - 1):
                text, due = text + sign + " ", after(due, sign)
            self.walk("expression", text, due, many)


if __name__ == "__main__":
    unittest.main()
