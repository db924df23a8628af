"""Point [16]: the arena of a plant, its positions and its gains."""

import unittest

from neverleaves.arenas import check_arena, check_goal
from neverleaves.compiling import arena_of, gains_of, position_of, positions_where
from neverleaves.plants import inputs_of, next_state, replies_of, states_of
from tests.samples import FALSE, ONE, TRUE, X, Y
from tests.test_plant_texts import PLANTS
from tests.test_plants import ALLOWED, DISTURBANCES, INPUTS, RIGHT, STEPS, U, VARIABLES, W, number, plant_of

BIG = 10 ** 40

# Plants and their arenas.
COMPILED = (
    # Neither inputs nor disturbances.
    (plant_of((("x", 0, 2),)), (((0,),), ((1,),), ((2,),))),
    (plant_of((("x", 0, 2),), steps=(("add", X, ONE),)), (((1,),), ((2,),), ((-1,),))),
    (plant_of((("x", 5, 5),), steps=(number(6),)), (((-1,),),)),
    (plant_of((("x", 5, 5),), allowed=FALSE), ((),)),
    (plant_of((("x", 0, 2),), allowed=("equal", X, ONE)), ((), ((1,),), ())),
    # Inputs alone.
    (plant_of((("x", 0, 2),), (("u", 0, 2),), (), (U,)), (((0,), (1,), (2,)),) * 3),
    (plant_of((("x", 0, 2),), (("u", -1, 1),), (), (("add", X, U),)),
     (((-1,), (0,), (1,)), ((0,), (1,), (2,)), ((1,), (2,), (-1,)))),
    (plant_of((("x", 0, 2),), (("u", -1, 1),), (), (("add", X, U),), ("less", U, X)),
     (((-1,),), ((0,), (1,)), ((1,), (2,), (-1,)))),
    # Disturbances alone.
    (plant_of((("x", 0, 2),), (), (("w", 0, 2),), (W,)), (((0, 1, 2),),) * 3),
    (plant_of((("x", 0, 2),), (), (("w", -1, 1),), (("add", X, W),)), (((-1, 0, 1),), ((0, 1, 2),), ((-1, 1, 2),))),
    # Replies that lead to the same state, in another order.
    (plant_of((("x", 0, 2),), (), (("w", -2, 2),), (("sub", number(2), ("abs", W)),)), (((0, 1, 2),),) * 3),
    (plant_of((("x", 0, 2),), (), (("w", 0, 9),), (("sub", number(2), ("mod", W, 2)),)), (((1, 2),),) * 3),
    (plant_of((("x", 0, 2),), (), (("w", 0, 9),), (ONE,)), (((1,),),) * 3),
    (plant_of((("x", 0, 2),), (), (("w", 7, 9),), (W,)), (((-1,),),) * 3),
    # Several of each kind.
    (plant_of((("x", 0, 1), ("y", 5, 6)), (("u", 0, 1),), (("w", 0, 1),), (("max", X, U), ("add", Y, W))),
     (((0, 1), (2, 3)), ((-1, 1), (-1, 3)), ((2, 3), (2, 3)), ((-1, 3), (-1, 3)))),
    (plant_of((("x", 0, 1), ("y", 0, 1)), steps=(Y, X)), (((0,),), ((2,),), ((1,),), ((3,),))),
    # Far from 0.
    (plant_of((("x", BIG, BIG + 1),), (("u", -BIG, 1 - BIG),), (), (("sub", number(0), U),)), (((0,), (-1,)),) * 2),
    (plant_of((("x", -BIG - 1, -BIG),), (("u", BIG, BIG + 1),), (), (("sub", number(0), U),)), (((1,), (0,)),) * 2),
)


class ArenasOfPlants(unittest.TestCase):
    def test_arenas(self):
        for plant, arena in COMPILED:
            with self.subTest(plant=plant):
                self.assertEqual(repr(arena_of(plant)), repr(arena))
                self.assertIsNone(check_arena(arena_of(plant)))

    def small(self):
        return [plant for plant, _ in COMPILED] + [plant for plant, _ in PLANTS if plant[0][0][2] < 100] + [RIGHT]

    def test_arenas_word_by_word(self):
        for plant in self.small():
            states = states_of(plant)
            arena = arena_of(plant)
            self.assertEqual(len(arena), len(states))
            for state, options in zip(states, arena):
                moves = inputs_of(plant, state)
                self.assertEqual(len(options), len(moves))
                for move, option in zip(moves, options):
                    after = {next_state(plant, state, move, reply) for reply in replies_of(plant)}
                    numbers = {-1 if one is None else states.index(one) for one in after}
                    self.assertEqual(option, tuple(sorted(numbers)))

    def test_positions_of_states(self):
        for plant in self.small():
            for at, state in enumerate(states_of(plant)):
                self.assertEqual(position_of(plant, state), at)

    def test_the_greatest_sizes(self):
        plant = plant_of((("x", 1, 200),), (("u", 1, 60),), (("w", 0, 3),), (("add", X, ("sub", U, W)),), ("less", U, number(4)))
        arena = arena_of(plant)
        self.assertEqual(len(arena), 200)
        self.assertEqual(arena[0], ((-1, 0, 1), (-1, 0, 1, 2), (0, 1, 2, 3)))
        self.assertEqual(arena[199], ((-1, 197, 198, 199), (-1, 198, 199), (-1, 199)))
        self.assertEqual(position_of(plant, (200,)), 199)


class Positions(unittest.TestCase):
    def test_a_variable(self):
        plant = plant_of((("x", -2, 2),))
        for condition, positions in (
            (TRUE, (0, 1, 2, 3, 4)),
            (FALSE, ()),
            (("all", ()), (0, 1, 2, 3, 4)),
            (("any", ()), ()),
            (("less", X, number(0)), (0, 1)),
            (("not", ("less", X, number(0))), (2, 3, 4)),
            (("equal", X, number(2)), (4,)),
            (("equal", ("mod", X, 2), number(0)), (0, 2, 4)),
            (("equal", X, number(9)), ()),
        ):
            self.assertEqual(repr(positions_where(plant, condition)), repr(positions))

    def test_several_variables(self):
        plant = (VARIABLES, INPUTS, DISTURBANCES, STEPS, ALLOWED)
        states = states_of(plant)
        for condition, holds in (
            (("equal", X, Y), lambda x, y: x == y),
            (("less", X, ("add", Y, ONE)), lambda x, y: x < y + 1),
            (("any", (("equal", X, number(3)), ("less", Y, number(0)))), lambda x, y: x == 3 or y < 0),
        ):
            wanted = tuple(at for at, (x, y) in enumerate(states) if holds(x, y))
            self.assertEqual(positions_where(plant, condition), wanted)

    def test_they_are_right_for_goals(self):
        for plant, arena in COMPILED:
            for kind in ("stay", "come"):
                name = plant[0][0][0]
                positions = positions_where(plant, ("less", ("name", name), number(2)))
                self.assertIsNone(check_goal(arena, (kind, positions)))

    def test_whether_an_input_is_allowed_does_not_count(self):
        self.assertEqual(positions_where(plant_of((("x", 0, 2),), allowed=FALSE), TRUE), (0, 1, 2))


class Gains(unittest.TestCase):
    def test_names_of_variables(self):
        plant = plant_of((("x", 3, 5),), (("u", 0, 1),))
        self.assertEqual(repr(gains_of(plant, X)), "((3, 3), (4, 4), (5, 5))")
        self.assertEqual(repr(gains_of(plant, ("mul", X, X))), "((9, 9), (16, 16), (25, 25))")

    def test_names_of_inputs(self):
        plant = plant_of((("x", 3, 5),), (("u", -1, 0), ("v", 0, 1)))
        self.assertEqual(gains_of(plant, U), ((-1, -1, 0, 0),) * 3)
        self.assertEqual(gains_of(plant, ("name", "v")), ((0, 1, 0, 1),) * 3)
        self.assertEqual(gains_of(plant, ("sub", ("mul", X, number(10)), ("add", U, ("name", "v")))),
                         ((31, 30, 30, 29), (41, 40, 40, 39), (51, 50, 50, 49)))

    def test_only_options_have_gains(self):
        plant = plant_of((("x", 0, 3),), (("u", 0, 2),), allowed=("less", U, X))
        self.assertEqual(repr(gains_of(plant, ("add", X, U))), "((), (1,), (2, 3), (3, 4, 5))")
        plant = plant_of((("x", 0, 3),), (("u", 0, 2),), allowed=("less", X, U))
        self.assertEqual(repr(gains_of(plant, U)), "((1, 2), (2,), (), ())")

    def test_without_inputs(self):
        self.assertEqual(repr(gains_of(plant_of((("x", 0, 2),)), ("sub", ONE, X))), "((1,), (0,), (-1,))")
        self.assertEqual(repr(gains_of(plant_of((("x", 0, 2),), allowed=("equal", X, ONE)), X)), "((), (1,), ())")

    def test_disturbances_do_not_count(self):
        plant = plant_of((("x", 0, 1),), (("u", 0, 1),), (("w", 0, 5),))
        self.assertEqual(gains_of(plant, ("add", X, U)), ((0, 1), (1, 2)))

    def test_any_size(self):
        plant = plant_of((("x", 0, 1),), (("u", BIG, BIG + 1),))
        self.assertEqual(gains_of(plant, ("mul", U, ("sub", ("mul", X, number(2)), ONE))),
                         ((-BIG, -BIG - 1), (BIG, BIG + 1)))
        self.assertEqual(gains_of(plant, ("mul", U, U)), ((BIG ** 2, (BIG + 1) ** 2),) * 2)

    def test_they_are_right_for_a_tank(self):
        for plant, arena in COMPILED:
            self.assertIsNone(check_goal(arena, ("tank", gains_of(plant, ("name", plant[0][0][0])))))


if __name__ == "__main__":
    unittest.main()
