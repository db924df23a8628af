"""Point [13], with what point [10] says of valid plants: the texts of plants."""

import unittest

from neverleaves.errors import BadText
from neverleaves.texts import read_plant, write_plant
from tests.samples import FALSE, ONE, TRUE, WORDS, X, Y

U = ("name", "u")
W = ("name", "w")
BIG = 10 ** 60 - 1

FULL = (
    (("x", 0, 9), ("y", -5, 5)),
    (("u", -1, 1), ("v", 0, 0)),
    (("w", 0, 2), ("ww", -7, -3)),
    (("add", X, ("sub", U, W)), ("if", ("less", X, ("name", "v")), Y, ("name", "ww"))),
    ("all", (("less", U, X), ("not", ("equal", Y, ("number", -5))))),
)
FULL_TEXT = (
    "state x 0 9\n"
    "state y -5 5\n"
    "input u -1 1\n"
    "input v 0 0\n"
    "noise w 0 2\n"
    "noise ww -7 -3\n"
    "next x add(x, sub(u, w))\n"
    "next y if(less(x, v), y, ww)\n"
    "allow all(less(u, x), not(equal(y, -5)))\n"
)

PLANTS = (
    (FULL, FULL_TEXT),
    (((("x", 0, 1),), (), (), (X,), TRUE), "state x 0 1\nnext x x\nallow true\n"),
    (((("x", 3, 3),), (("u", 0, 4),), (), (U,), ("any", ())),
     "state x 3 3\ninput u 0 4\nnext x u\nallow any()\n"),
    (((("x", -3, -3),), (), (("w", 0, 4),), (("mod", W, 2),), FALSE),
     "state x -3 -3\nnoise w 0 4\nnext x mod(w, 2)\nallow false\n"),
    (((("x", -BIG, BIG),), (), (), (("number", BIG),), ("less", X, ("number", -BIG))),
     f"state x -{BIG} {BIG}\nnext x {BIG}\nallow less(x, -{BIG})\n"),
    (((("y", 0, 1), ("x", 0, 1)), (), (), (X, ("sub", ONE, X)), TRUE),
     "state y 0 1\nstate x 0 1\nnext y x\nnext x sub(1, x)\nallow true\n"),
    # The words that begin the lines are names like any others.
    (((("state", 0, 1), ("allow", 0, 1)), (("input", 0, 1),), (("noise", 0, 1), ("next", 0, 1)),
      (("name", "next"), ("name", "allow")), ("less", ("name", "input"), ("name", "state"))),
     "state state 0 1\nstate allow 0 1\ninput input 0 1\nnoise noise 0 1\nnoise next 0 1\n"
     "next state next\nnext allow allow\nallow less(input, state)\n"),
    (((("xmin", 0, 1), ("iff", 0, 1)), (), (), (("name", "iff"), ("name", "xmin")), TRUE),
     "state xmin 0 1\nstate iff 0 1\nnext xmin iff\nnext iff xmin\nallow true\n"),
)


class PlantTexts(unittest.TestCase):
    def bad(self, text, line):
        with self.subTest(text=text):
            with self.assertRaises(BadText) as caught:
                read_plant(text)
            self.assertIs(type(caught.exception), BadText)
            self.assertEqual((caught.exception.line, caught.exception.column), (line, 1))

    def lines(self):
        return FULL_TEXT.splitlines()

    def bad_line(self, number, line):
        """In the place of the line with this number (from 1), the line is the first wrong one."""
        lines = self.lines()
        self.bad("\n".join(lines[:number - 1] + [line] + lines[number:]) + "\n", number)
        self.bad("\n".join(lines[:number - 1] + [line]) + "\n", number)
        self.bad("\n".join(lines[:number - 1] + [line, "", "what"]), number)


class RightPlants(PlantTexts):
    def test_written(self):
        for plant, text in PLANTS:
            with self.subTest(text):
                self.assertEqual(write_plant(plant), text)

    def test_read(self):
        for plant, text in PLANTS:
            with self.subTest(text):
                self.assertEqual(repr(read_plant(text)), repr(plant))

    def test_more_variables_than_other_plants_have(self):
        letters = "abcdefghijklmnopqrst"
        variables = tuple([("s" + letter, 0, 1) for letter in letters])
        inputs = tuple([("u" + letter, 0, 1) for letter in letters])
        disturbances = tuple([("w" + letter, 0, 1) for letter in letters])
        steps = tuple([("min", ("name", "u" + letter), ("name", "w" + letter)) for letter in letters])
        plant = (variables, inputs, disturbances, steps, ("equal", ("name", "sa"), ("name", "ut")))
        self.assertEqual(repr(read_plant(write_plant(plant))), repr(plant))
        self.assertEqual(len(write_plant(plant).splitlines()), 81)

    def test_wide_ranges(self):
        plant = ((("x", -10 ** 50, 10 ** 50),), (), (), (X,), TRUE)
        self.assertEqual(read_plant(write_plant(plant)), plant)

    def test_what_names_it_may_name(self):
        text = "state x 0 1\nstate y 0 1\ninput u 0 1\nnoise w 0 1\nnext x {}\nnext y {}\nallow less({}, 1)\n"
        for first in ("x", "y", "u", "w"):
            for second in ("x", "y", "u"):
                right = text.format(first, first, second)
                self.assertEqual(write_plant(read_plant(right)), right)

    def test_a_depth_of_twelve(self):
        self.assertEqual(
            read_plant("state x 0 1\nnext x " + "abs(" * 11 + "x" + ")" * 11 + "\nallow true\n")[3][0][0], "abs")
        self.bad("state x 0 1\nnext x " + "abs(" * 12 + "x" + ")" * 12 + "\nallow true\n", 2)
        self.assertEqual(
            read_plant("state x 0 1\nnext x x\nallow " + "not(" * 11 + "true" + ")" * 11 + "\n")[4][0], "not")
        self.bad("state x 0 1\nnext x x\nallow " + "not(" * 12 + "true" + ")" * 12 + "\n", 3)


class WrongRangeLines(PlantTexts):
    RANGES = ((1, "state"), (2, "state"), (3, "input"), (4, "input"), (5, "noise"), (6, "noise"))

    def test_of_another_form(self):
        for number, word in self.RANGES:
            for line in (
                "", " ", word, word + " ", word + " q", word + " q 0", word + " q 0 ", word + " q 0 1 ",
                word + " q 0 1 2", word + " q 0  1", word + "  q 0 1", word + " q  0 1", " " + word + " q 0 1",
                word + "q 0 1", word + "\tq 0 1", word + " q 0\t1", word + " q 0 1\r", word + " q 0 1\t",
                word + " q,0,1", word + " 0 1", word + " 0 1 q", word + " q 0 1 q", word + " q r 0 1",
                word + " q 0 1 allow true",
            ):
                self.bad_line(number, line)

    def test_of_another_first_word(self):
        for number, word in self.RANGES:
            for other in ("what", word.upper(), word.title(), word + "s", word[:-1], "0", "x", "", "-", "true"):
                self.bad_line(number, other + " q 0 1")

    def test_names_that_are_not_right(self):
        for number, word in self.RANGES:
            for name in WORDS + ("Q", "q1", "q_", "_q", "1", "-", "q-", "qQ", "q.", "q,", "(q)", "0q"):
                self.bad_line(number, f"{word} {name} 0 1")

    def test_names_that_a_line_before_has(self):
        names = ("x", "y", "u", "v", "w", "ww")
        for number, word in self.RANGES:
            for name in names[:number - 1]:
                self.bad_line(number, f"{word} {name} 0 1")

    def test_bounds_that_are_no_integers(self):
        for number, word in self.RANGES:
            for wrong in ("00", "01", "-0", "-01", "+1", "-", "--1", "1-", "1.0", "1e3", "0x1", "1_0", "a", "x", "(1)",
                          "1,", "1" * 61, "-" + "1" * 61, "0" * 60, "true", "add(1, 2)"):
                self.bad_line(number, f"{word} q {wrong} {BIG}")
                self.bad_line(number, f"{word} q -{BIG} {wrong}")

    def test_low_greater_than_high(self):
        for number, word in self.RANGES:
            for low, high in ((1, 0), (0, -1), (-1, -2), (10, 9), (BIG, BIG - 1), (1, -BIG)):
                self.bad_line(number, f"{word} q {low} {high}")

    def test_low_and_high_that_are_right(self):
        for word, before, behind in (("state", "", "next q 1\n"), ("input", "", ""), ("noise", "", "")):
            for low, high in ((0, 0), (-1, 0), (9, 10), (-10, -9), (-BIG, -BIG), (-BIG, BIG)):
                text = f"state x 0 1\n{before}{word} q {low} {high}\nnext x x\n{behind}allow true\n"
                self.assertEqual(write_plant(read_plant(text)), text)


class WrongSteps(PlantTexts):
    def test_of_another_form(self):
        for number, name, step in ((7, "x", "add(x, sub(u, w))"), (8, "y", "if(less(x, v), y, ww)")):
            for line in (
                "", " ", "next", "next ", f"next {name}", f"next {name} ", f"next  {name} {step}",
                f"next {name}  {step}", f" next {name} {step}", f"next {name} {step} ", f"next {step}",
                f"nex {name} {step}", f"Next {name} {step}", f"nextt {name} {step}", f"{name} {step}",
                f"next {name} {step} x", f"next {name} {name} {step}", f"next {name}\t{step}",
                f"next {name} {step}\r", f"next{name} {step}", f"next {name}{step}",
            ):
                self.bad_line(number, line)

    def test_of_another_name(self):
        for wrong in ("y", "u", "w", "xx", "z", "X", "", "0", "add"):
            self.bad_line(7, f"next {wrong} 0")
        for wrong in ("x", "u", "w", "yy", "z", "Y", "", "0", "add"):
            self.bad_line(8, f"next {wrong} 0")

    def test_out_of_order(self):
        lines = self.lines()
        lines[6], lines[7] = lines[7], lines[6]
        self.bad("\n".join(lines) + "\n", 7)

    def test_with_an_expression_that_is_not_valid(self):
        for wrong in ("true", "less(x, y)", "add(x)", "add(x, y, u)", "div(x, 0)", "mod(x, -1)", "div(x, y)", "00",
                      "1" * 61, "-", "?", "()", "(x)", "abs(" * 12 + "x" + ")" * 12, "x y", "X", "min"):
            self.bad_line(7, "next x " + wrong)
            self.bad_line(8, "next y " + wrong)

    def test_with_an_expression_that_is_not_in_its_written_form(self):
        for wrong in ("add(x,y)", "add(x,  y)", "add( x, y)", "add(x, y )", "add(x , y)", "add (x, y)", " x", "x ",
                      "if(all( ), x, y)", "div(x,2)", "abs(x) "):
            self.bad_line(7, "next x " + wrong)
            self.bad_line(8, "next y " + wrong)

    def test_with_a_name_that_no_line_has(self):
        for wrong in ("z", "xx", "xy", "uu", "www", "add(x, z)", "if(less(z, x), x, y)", "next", "state"):
            self.bad_line(7, "next x " + wrong)
            self.bad_line(8, "next y " + wrong)


class WrongConditions(PlantTexts):
    def test_of_another_form(self):
        for line in ("", " ", "allow", "allow ", "allow  true", " allow true", "allow true ", "allow true true",
                     "allo true", "Allow true", "allows true", "true", "allow\ttrue", "allow true\r", "allowtrue"):
            self.bad_line(9, line)

    def test_with_a_condition_that_is_not_valid(self):
        for wrong in ("x", "3", "add(x, y)", "less(x)", "not()", "TRUE", "all(true,)", "all(x)", "?", "(true)", "true()",
                      "less(div(x, 0), 1)", "less(x, 00)", "equal(x, " + "1" * 61 + ")",
                      "not(" * 12 + "true" + ")" * 12):
            self.bad_line(9, "allow " + wrong)

    def test_with_a_condition_that_is_not_in_its_written_form(self):
        for wrong in ("all( )", "all(true,true)", "all(true,  true)", "less(x,y)", "not( true)", "not(true )", "any ()"):
            self.bad_line(9, "allow " + wrong)

    def test_with_a_name_that_it_may_not_name(self):
        for wrong in ("w", "ww", "z", "xx", "allow", "state"):
            self.bad_line(9, f"allow less({wrong}, 1)")
            self.bad_line(9, f"allow all(true, not(equal(x, add(y, {wrong}))))")


class LinesOfOtherKinds(PlantTexts):
    STATE, INPUT, NOISE = "state q 0 1", "input q 0 1", "noise q 0 1"
    NEXT, ALLOW = "next x x", "allow true"

    def test_the_first_line_is_a_state_line(self):
        for line in (self.INPUT, self.NOISE, self.NEXT, self.ALLOW, "next q 0"):
            self.bad_line(1, line)
            self.bad(line + "\n" + FULL_TEXT, 1)
            self.bad(line, 1)

    def test_each_kind_of_line_put_before_each_line(self):
        # The number of the wrong line where the line is put before the first line, before the second
        # one, and so on, and at the end; 0 where nothing is wrong. Where it is right itself, a later
        # line may be the first one that cannot stand there any more.
        outcomes = {
            self.STATE: (8, 9, 10, 4, 5, 6, 7, 8, 9, 10),
            self.INPUT: (1, 3, 0, 0, 0, 6, 7, 8, 9, 10),
            self.NOISE: (1, 3, 4, 5, 0, 0, 0, 8, 9, 10),
            self.NEXT: (1, 3, 4, 5, 6, 7, 8, 8, 9, 10),
            self.ALLOW: (1, 2, 3, 4, 5, 6, 7, 8, 10, 10),
        }
        lines = self.lines()
        for line, wrong in outcomes.items():
            for place in range(10):
                text = "\n".join(lines[:place] + [line] + lines[place:]) + "\n"
                if wrong[place]:
                    self.bad(text, wrong[place])
                else:
                    self.assertEqual(write_plant(read_plant(text)), text)

    def test_lines_that_are_missing(self):
        lines = self.lines()
        for place, wrong in enumerate((6, 7, 6, 7, 6, 7, 7, 8, 9)):
            self.bad("\n".join(lines[:place] + lines[place + 1:]) + "\n", wrong)

    def test_too_many_next_lines(self):
        lines = self.lines()
        for more in ("next x x", "next y y", "next z x", "next u u", "next "):
            self.bad("\n".join(lines[:8] + [more] + lines[8:]) + "\n", 9)
            self.bad("\n".join(lines[:8] + [more]) + "\n", 9)

    def test_too_few_next_lines(self):
        lines = self.lines()
        self.bad("\n".join(lines[:6] + lines[8:]) + "\n", 7)
        self.bad("\n".join(lines[:7] + lines[8:]) + "\n", 8)

    def test_nothing_stands_behind_the_condition(self):
        for more in ("\n", " \n", "allow true\n", "state q 0 1\n", "next x x\n", "what\n", "\n\n\n", "allow true\n?\n"):
            self.bad(FULL_TEXT + more, 10)
        for more in (" ", "x", "allow true", "what"):
            self.bad(FULL_TEXT + more, 10)

    def test_blank_lines(self):
        lines = self.lines()
        for place in range(len(lines) + 1):
            self.bad("\n".join(lines[:place] + [""] + lines[place:]) + "\n", place + 1)
            self.bad("\n".join(lines[:place] + [" "] + lines[place:]) + "\n", place + 1)


class EndsOfTexts(PlantTexts):
    def test_the_empty_text(self):
        self.bad("", 1)

    def test_a_blank_text(self):
        self.bad("\n", 1)
        self.bad("\n\n", 1)
        self.bad(" ", 1)

    def test_each_beginning_of_a_text(self):
        for plant, text in PLANTS:
            for end in range(len(text)):
                # An unfinished line is not right, and behind a finished one the next line is missing.
                self.bad(text[:end], text[:end].count("\n") + 1)

    def test_no_newline_at_the_end_behind_an_earlier_wrong_line(self):
        lines = self.lines()
        for place in range(8):
            self.bad("\n".join(lines[:place] + ["what"] + lines[place + 1:]), place + 1)
        self.bad("\n".join(lines), 9)

    def test_other_ends_of_lines(self):
        self.bad(FULL_TEXT.replace("\n", "\r\n"), 1)
        self.bad(FULL_TEXT.replace("\n", "\r"), 1)
        self.bad(FULL_TEXT[:-1] + "\r\n", 9)
        self.bad(FULL_TEXT[:-1] + "\x0c", 9)


class OneTextForEachPlant(PlantTexts):
    def test_what_is_read_from_a_changed_text_is_written_as_that_text(self):
        _, text = PLANTS[2]
        for place in range(len(text)):
            for character in "\n x0-(),ua1":
                for changed in (text[:place] + character + text[place:], text[:place] + character + text[place + 1:],
                                text[:place] + text[place + 1:]):
                    self.check(changed, text[:place].count("\n") + 1)

    def check(self, changed, first):
        """Lines before the first changed one are never wrong."""
        try:
            plant = read_plant(changed)
        except BadText as error:
            self.assertGreaterEqual(error.line, first)
            self.assertEqual(error.column, 1)
            return
        self.assertEqual(write_plant(plant), changed)


if __name__ == "__main__":
    unittest.main()
