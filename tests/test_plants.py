"""Points [10], [11], [12]: valid plants, their states, inputs and replies, and their steps."""

import itertools
import re
import unittest

from neverleaves import errors
from neverleaves.errors import ControlError, InvalidPlant
from neverleaves.plants import check_plant, inputs_of, next_state, replies_of, states_of
from neverleaves.texts import read_plant, write_plant
from tests.samples import FALSE, ONE, TRUE, WORDS, X, Y, deep_condition, deep_expression
from tests.test_plant_texts import PLANTS

U = ("name", "u")
W = ("name", "w")
HUGE = 10 ** 80


def number(n):
    return ("number", n)


def plant_of(variables=(("x", 0, 3),), inputs=(), disturbances=(), steps=None, allowed=TRUE):
    """A plant; without steps, each variable keeps its value."""
    if steps is None:
        steps = tuple(("name", name) for name, _, _ in variables)
    return variables, inputs, disturbances, steps, allowed


VALID = tuple(plant for plant, _ in PLANTS) + (
    plant_of(),
    plant_of((("x", 5, 5),)),
    plant_of(inputs=(("u", 0, 2),), steps=(("add", X, U),), allowed=("less", U, X)),
    plant_of(disturbances=(("w", -2, 2),), steps=(("sub", X, W),)),
    plant_of(inputs=(("u", 0, 0),), disturbances=(("w", 7, 7),), steps=(("mul", U, W),), allowed=("equal", U, X)),
    plant_of((("x", HUGE, HUGE + 2), ("y", -HUGE - 2, -HUGE))),
    plant_of((("x", -HUGE, HUGE),), (("u", -HUGE, HUGE),), (("w", -HUGE, HUGE),)),
    plant_of((("x", 0, 1), ("xx", 0, 1), ("xxx", 0, 1)), (("xxxx", 0, 1),), (("xxxxx", 0, 1),)),
    plant_of((("xxx", 0, 1), ("xx", 0, 1), ("x", 0, 1))),
    plant_of((("state", 0, 1),), (("input", 0, 1), ("next", 0, 1)), (("noise", 0, 1), ("allow", 0, 1))),
    plant_of((("number", 0, 1), ("name", 0, 1), ("iff", 0, 1), ("ad", 0, 1), ("minmax", 0, 1))),
    plant_of((("abcdefghijklmnopqrstuvwxyz", 0, 1),)),
    plant_of(steps=(deep_expression(12),), allowed=deep_condition(12)),
    plant_of(steps=(("div", X, HUGE),), allowed=("equal", ("mod", X, 1), number(0))),
    plant_of(tuple((letter, 0, 9) for letter in "abcdefghijklmnopqrst")),
    plant_of(allowed=FALSE),
)

# A plant with two of each kind: its faulty forms have one fault each.
VARIABLES = (("x", 0, 3), ("y", -1, 1))
INPUTS = (("u", 0, 1), ("v", 2, 3))
DISTURBANCES = (("w", 0, 1), ("z", -2, -1))
STEPS = (("add", X, W), ("sub", Y, U))
ALLOWED = ("less", U, X)
RIGHT = (VARIABLES, INPUTS, DISTURBANCES, STEPS, ALLOWED)


def put(row, at, item):
    return row[:at] + (item,) + row[at + 1:]


class Checked(unittest.TestCase):
    def bad(self, plant):
        with self.subTest(plant=plant):
            with self.assertRaises(InvalidPlant) as caught:
                check_plant(plant)
            self.assertIs(type(caught.exception), InvalidPlant)

    def bad_range(self, part, at, triple):
        self.bad(put(RIGHT, part, put(RIGHT[part], at, triple)))


class ValidPlants(Checked):
    def test_none_is_returned(self):
        for plant in VALID + (RIGHT,):
            with self.subTest(plant=plant):
                self.assertIsNone(check_plant(plant))

    def test_what_is_read_is_valid(self):
        for _, text in PLANTS:
            with self.subTest(text):
                self.assertIsNone(check_plant(read_plant(text)))

    def test_what_is_valid_is_written_and_read_back(self):
        for plant in VALID + (RIGHT,):
            if max(len(digits) for digits in re.findall("[0-9]+", repr(plant))) <= 60:
                with self.subTest(plant=plant):
                    self.assertEqual(read_plant(write_plant(plant)), plant)
                    self.assertIsNone(check_plant(read_plant(write_plant(plant))))


class FaultyRanges(Checked):
    def test_no_variables(self):
        self.bad(((), (), (), (), TRUE))
        self.bad(((), INPUTS, DISTURBANCES, (), TRUE))
        self.bad(((), INPUTS, DISTURBANCES, (U,), TRUE))

    def test_names_that_are_none(self):
        for name in ("", "X", "xY", "x1", "1", "x y", " x", "x ", "x_y", "-x", "x,", "(", "x\n", "\n", "*"):
            for part in (0, 1, 2):
                for at in (0, 1):
                    self.bad_range(part, at, (name, 0, 1))

    def test_words(self):
        for name in WORDS:
            for part in (0, 1, 2):
                for at in (0, 1):
                    self.bad_range(part, at, (name, 0, 1))

    def test_names_that_stand_twice(self):
        places = [(part, at) for part in (0, 1, 2) for at in (0, 1)]
        for (part, at), (other, place) in itertools.permutations(places, 2):
            _, low, high = RIGHT[other][place]
            # The steps and the condition name nothing, so nothing else is wrong.
            plant = RIGHT[:3] + ((ONE, ONE), TRUE)
            self.bad(put(plant, other, put(plant[other], place, (RIGHT[part][at][0], low, high))))

    def test_a_variable_that_stands_twice(self):
        self.bad(((("x", 0, 1), ("x", 0, 1)), (), (), (ONE, ONE), TRUE))
        self.bad(((("x", 0, 1), ("y", 0, 1), ("x", 5, 6)), (), (), (ONE, ONE, ONE), TRUE))

    def test_low_above_high(self):
        for part in (0, 1, 2):
            for at in (0, 1):
                name = RIGHT[part][at][0]
                for low, high in ((1, 0), (0, -1), (-1, -2), (100, 3), (HUGE, HUGE - 1), (1 - HUGE, -HUGE), (HUGE, 0)):
                    self.bad_range(part, at, (name, low, high))


class FaultySteps(Checked):
    def test_too_many_or_too_few(self):
        for steps in ((), (X,), (X, Y, X), (X, Y, X, Y), STEPS[:1], STEPS[1:], STEPS + (X,)):
            self.bad(put(RIGHT, 3, steps))
        self.bad(((("x", 0, 1),), (), (), (), TRUE))
        self.bad(((("x", 0, 1),), (), (), (X, X), TRUE))

    def bad_part(self, expression):
        """This expression is wrong in a step, and in the condition."""
        for at in (0, 1):
            for step in (expression, ("add", ONE, expression), ("if", ("less", expression, X), X, X)):
                self.bad(put(RIGHT, 3, put(STEPS, at, step)))
        for allowed in (("less", expression, X), ("not", ("equal", X, expression)), ("any", (TRUE, ("less", X, expression)))):
            self.bad(put(RIGHT, 4, allowed))

    def test_a_bad_name(self):
        for name in ("", "X", "x1", "x y", "add", "true", "all", "if"):
            self.bad_part(("name", name))

    def test_a_bad_divisor(self):
        for divisor in (0, -1, -HUGE):
            self.bad_part(("div", X, divisor))
            self.bad_part(("mod", X, divisor))

    def test_an_unknown_name(self):
        for name in ("q", "xx", "xy", "uu", "wx", "state", "noise"):
            self.bad_part(("name", name))
            self.bad_part(("mul", X, ("abs", ("name", name))))

    def test_too_deep(self):
        for depth in (13, 14, 50, 100):
            for at in (0, 1):
                self.bad(put(RIGHT, 3, put(STEPS, at, deep_expression(depth))))
            self.bad(put(RIGHT, 4, deep_condition(depth)))
            self.bad(put(RIGHT, 4, ("less", deep_expression(depth - 1), X)))

    def test_what_the_condition_may_name(self):
        for name in ("x", "y", "u", "v"):
            self.assertIsNone(check_plant(put(RIGHT, 4, ("less", ("name", name), ONE))))
        for name in ("w", "z"):
            self.bad(put(RIGHT, 4, ("less", ("name", name), ONE)))
            self.bad(put(RIGHT, 4, ("all", (TRUE, ("not", ("equal", ONE, ("name", name)))))))

    def test_what_a_step_may_name(self):
        for name in ("x", "y", "u", "v", "w", "z"):
            for at in (0, 1):
                self.assertIsNone(check_plant(put(RIGHT, 3, put(STEPS, at, ("abs", ("name", name))))))


class TheError(Checked):
    def test_its_place_among_the_errors(self):
        self.assertEqual(InvalidPlant.__bases__, (ControlError,))
        self.assertTrue(issubclass(InvalidPlant, ValueError))
        for name in ("InvalidExpression", "InvalidArena", "InvalidGoal", "BadText", "NoPosition", "Held", "NotHeld",
                     "BadReply", "Lost"):
            self.assertFalse(issubclass(InvalidPlant, getattr(errors, name)))


class StatesInputsReplies(unittest.TestCase):
    def test_states(self):
        for variables, states in (
            ((("x", 0, 3),), ((0,), (1,), (2,), (3,))),
            ((("x", 5, 5),), ((5,),)),
            ((("x", -2, 1),), ((-2,), (-1,), (0,), (1,))),
            ((("x", 0, 1), ("y", 3, 5)), ((0, 3), (0, 4), (0, 5), (1, 3), (1, 4), (1, 5))),
            ((("y", 3, 4), ("x", 0, 1)), ((3, 0), (3, 1), (4, 0), (4, 1))),
            ((("x", -1, 0), ("y", 9, 9), ("z", -10, -9)), ((-1, 9, -10), (-1, 9, -9), (0, 9, -10), (0, 9, -9))),
            ((("x", HUGE, HUGE + 1),), ((HUGE,), (HUGE + 1,))),
            ((("x", -HUGE - 1, -HUGE),), ((-HUGE - 1,), (-HUGE,))),
        ):
            self.assertEqual(repr(states_of(plant_of(variables))), repr(states))

    def test_many_states(self):
        variables = tuple((letter, -1, 0) for letter in "abcdefg")
        states = states_of(plant_of(variables))
        self.assertEqual(states, tuple(itertools.product((-1, 0), repeat=7)))
        self.assertEqual(list(states), sorted(set(states)))
        self.assertEqual(len(states_of(plant_of((("x", 1, 200),)))), 200)

    def test_replies(self):
        for disturbances, replies in (
            ((), ((),)),
            ((("w", 0, 2),), ((0,), (1,), (2,))),
            ((("w", 4, 4),), ((4,),)),
            ((("w", -1, 0), ("z", 0, 1)), ((-1, 0), (-1, 1), (0, 0), (0, 1))),
            ((("w", HUGE, HUGE + 1),), ((HUGE,), (HUGE + 1,))),
        ):
            self.assertEqual(repr(replies_of(plant_of(disturbances=disturbances))), repr(replies))

    def test_all_inputs(self):
        for inputs, moves in (
            ((), ((),)),
            ((("u", 0, 2),), ((0,), (1,), (2,))),
            ((("u", 4, 4),), ((4,),)),
            ((("u", -1, 0), ("v", 0, 1)), ((-1, 0), (-1, 1), (0, 0), (0, 1))),
            ((("v", HUGE, HUGE + 1),), ((HUGE,), (HUGE + 1,))),
        ):
            for state in ((0,), (3,)):
                self.assertEqual(repr(inputs_of(plant_of(inputs=inputs), state)), repr(moves))

    def test_allowed_inputs(self):
        plant = plant_of(inputs=(("u", 0, 2),), allowed=("less", U, X))
        for state, moves in (((0,), ()), ((1,), ((0,),)), ((2,), ((0,), (1,))), ((3,), ((0,), (1,), (2,)))):
            self.assertEqual(repr(inputs_of(plant, state)), repr(moves))
        plant = plant_of((("x", 0, 1), ("y", 0, 1)), (("u", 0, 1), ("v", 0, 1)),
                         allowed=("equal", ("add", X, ("name", "v")), ("add", Y, U)))
        self.assertEqual(inputs_of(plant, (0, 0)), ((0, 0), (1, 1)))
        self.assertEqual(inputs_of(plant, (1, 0)), ((1, 0),))
        self.assertEqual(inputs_of(plant, (0, 1)), ((0, 1),))

    def test_whether_the_empty_input_is_allowed(self):
        plant = plant_of(allowed=("less", X, number(2)))
        for state, moves in (((0,), ((),)), ((1,), ((),)), ((2,), ()), ((3,), ())):
            self.assertEqual(repr(inputs_of(plant, state)), repr(moves))
        self.assertEqual(inputs_of(plant_of(allowed=FALSE), (0,)), ())
        self.assertEqual(inputs_of(plant_of(inputs=(("u", 0, 9),), allowed=FALSE), (0,)), ())

    def test_disturbances_do_not_count_for_inputs(self):
        plant = plant_of(inputs=(("u", 0, 1),), disturbances=(("w", 0, 5),), allowed=("equal", U, X))
        self.assertEqual(inputs_of(plant, (1,)), ((1,),))


class Steps(unittest.TestCase):
    def leads(self, plant, state, move, reply, after):
        self.assertEqual(repr(next_state(plant, state, move, reply)), repr(after))

    def test_inside_at_the_ends_and_just_beyond(self):
        for low, high in ((0, 3), (-5, -2), (7, 7), (HUGE, HUGE + 1), (-HUGE, HUGE)):
            plant = plant_of((("x", low, high),), (("u", low - 9, high + 9),), (), (U,))
            for value in {low, high, (low + high) // 2}:
                self.leads(plant, (low,), (value,), (), (value,))
            for value in (low - 1, high + 1, low - 9, high + 9):
                self.leads(plant, (low,), (value,), (), None)

    def test_each_variable_counts(self):
        plant = plant_of((("x", 0, 1), ("y", 10, 12), ("z", -3, -2)), (), (("w", -9, 99), ("v", -9, 99), ("u", -9, 99)),
                         (W, ("name", "v"), U))
        for x in (-1, 0, 1, 2):
            for y in (9, 10, 11, 12, 13):
                for z in (-4, -3, -2, -1):
                    right = 0 <= x <= 1 and 10 <= y <= 12 and -3 <= z <= -2
                    self.leads(plant, (0, 10, -2), (), (x, y, z), (x, y, z) if right else None)

    def test_all_steps_use_the_old_values(self):
        plant = plant_of((("x", 0, 9), ("y", 0, 9)), steps=(Y, X))
        self.leads(plant, (3, 4), (), (), (4, 3))
        plant = plant_of((("x", 0, 9), ("y", 0, 9)), steps=(("add", X, ONE), ("mul", X, number(2))))
        self.leads(plant, (3, 0), (), (), (4, 6))
        plant = plant_of((("x", 0, 9), ("y", 0, 9)), steps=(("mul", Y, number(2)), ("add", Y, ONE)))
        self.leads(plant, (0, 3), (), (), (6, 4))

    def test_inputs_that_are_not_allowed(self):
        plant = plant_of(inputs=(("u", 0, 3),), steps=(U,), allowed=("less", U, number(1)))
        self.assertEqual(inputs_of(plant, (0,)), ((0,),))
        for value in range(4):
            self.leads(plant, (0,), (value,), (), (value,))
        self.leads(plant_of(allowed=FALSE), (2,), (), (), (2,))

    def test_without_inputs_or_disturbances(self):
        self.leads(plant_of(steps=(("sub", X, ONE),)), (3,), (), (), (2,))
        self.leads(plant_of(steps=(("sub", X, ONE),)), (0,), (), (), None)
        self.leads(plant_of(inputs=(("u", 0, 3),), steps=(("sub", X, U),)), (3,), (2,), (), (1,))
        self.leads(plant_of(disturbances=(("w", 0, 3),), steps=(("sub", X, W),)), (3,), (), (2,), (1,))

    def test_inputs_and_replies_are_told_apart(self):
        plant = plant_of((("x", 0, 99), ("y", 0, 99)), (("u", 0, 9), ("v", 0, 9)), (("w", 0, 9), ("z", 0, 9)),
                         (("add", ("mul", U, number(10)), W), ("add", ("mul", ("name", "v"), number(10)), ("name", "z"))))
        self.leads(plant, (0, 0), (1, 2), (3, 4), (13, 24))

    def test_steps_that_are_chosen_by_conditions(self):
        step = ("if", ("less", X, number(2)), ("add", X, W), ("div", ("sub", X, number(7)), 2))
        plant = plant_of((("x", -3, 3),), (), (("w", 0, 1),), (step,))
        self.leads(plant, (1,), (), (1,), (2,))
        self.leads(plant, (2,), (), (1,), (-3,))
        self.leads(plant, (3,), (), (0,), (-2,))


if __name__ == "__main__":
    unittest.main()
