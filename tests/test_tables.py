"""Point [46]: the table of a plant and a strategy, and runs by a table."""

import random
import unittest

from neverleaves.compiling import arena_of, position_of, positions_where
from neverleaves.plants import inputs_of, next_state, replies_of, states_of
from neverleaves.plays import play_on
from neverleaves.solving import told_paper
from neverleaves.strategies import strategy_of
from neverleaves.tables import run, table_of
from tests.samples import FALSE, ONE, TRUE, X, Y
from tests.test_compiling import COMPILED
from tests.test_plants import U, W, number, plant_of

# A level from 0 to 3: an input adds to it, a disturbance takes from it.
LEVEL = plant_of((("x", 0, 3),), (("u", 0, 2),), (("w", 0, 1),), (("sub", ("add", X, U), W),), ("less", U, number(3)))


def some_strategy(chance, arena):
    return tuple(-1 if not options or chance.random() < 0.2 else chance.randrange(len(options)) for options in arena)


class Tables(unittest.TestCase):
    def tells(self, plant, strategy, table):
        with self.subTest(plant=plant, strategy=strategy):
            self.assertEqual(repr(table_of(plant, strategy)), repr(table))

    def test_inputs_of_options(self):
        self.tells(LEVEL, (0, 1, 2, 0), (((0,), (0,)), ((1,), (1,)), ((2,), (2,)), ((3,), (0,))))
        self.tells(LEVEL, (2, 2, 1, 0), (((0,), (2,)), ((1,), (2,)), ((2,), (1,)), ((3,), (0,))))

    def test_none_where_the_strategy_has_no_choice(self):
        self.tells(LEVEL, (-1, 1, -1, 0), (((0,), None), ((1,), (1,)), ((2,), None), ((3,), (0,))))
        self.tells(LEVEL, (-1,) * 4, tuple(((x,), None) for x in range(4)))

    def test_only_allowed_inputs_are_counted(self):
        plant = plant_of((("x", 0, 2),), (("u", -1, 1),), (), (X,), ("less", X, ("add", U, ONE)))
        # In 0 the inputs 0 and 1 are allowed, in 1 the input 1, in 2 none.
        self.tells(plant, (0, 0, -1), (((0,), (0,)), ((1,), (1,)), ((2,), None)))
        self.tells(plant, (1, -1, -1), (((0,), (1,)), ((1,), None), ((2,), None)))

    def test_without_inputs(self):
        self.tells(plant_of((("x", 0, 1),)), (0, -1), (((0,), ()), ((1,), None)))
        self.tells(plant_of((("x", 5, 6),), allowed=FALSE), (-1, -1), (((5,), None), ((6,), None)))

    def test_several_of_each_kind(self):
        plant = plant_of((("x", 0, 1), ("y", 5, 6)), (("u", 0, 1), ("v", -1, 0)), (("w", 0, 1),), (X, Y))
        self.tells(plant, (0, 1, 2, 3), (((0, 5), (0, -1)), ((0, 6), (0, 0)), ((1, 5), (1, -1)), ((1, 6), (1, 0))))

    def test_against_the_document(self):
        chance = random.Random(63)
        for plant, arena in COMPILED:
            for _ in range(20):
                strategy = some_strategy(chance, arena)
                self.tells(plant, strategy, tuple(
                    (state, None if index == -1 else inputs_of(plant, state)[index])
                    for state, index in zip(states_of(plant), strategy)))

    def test_the_greatest_sizes(self):
        plant = plant_of((("x", 1, 200),), (("u", 1, 60),), (("w", 0, 3),), (("add", X, ("sub", U, W)),))
        self.assertEqual(table_of(plant, tuple(at % 60 for at in range(200))),
                         tuple(((at + 1,), (at % 60 + 1,)) for at in range(200)))


class Runs(unittest.TestCase):
    def tells(self, plant, table, state, replies, states):
        for row in (list(replies), tuple(replies)):
            with self.subTest(plant=plant, table=table, state=state, replies=row):
                self.assertEqual(repr(run(plant, table, state, row)), repr(states))

    def test_no_replies(self):
        table = table_of(LEVEL, (-1, 1, 1, 0))
        for x in range(4):
            self.tells(LEVEL, table, (x,), (), ((x,),))

    def test_all_replies_are_used(self):
        table = table_of(LEVEL, (1, 0, 0, 0))
        self.tells(LEVEL, table, (3,), ((1,),), ((3,), (2,)))
        self.tells(LEVEL, table, (3,), ((1,), (0,), (1,), (1,), (0,), (1,)), ((3,), (2,), (2,), (1,), (0,), (1,), (0,)))

    def test_the_plant_leaves(self):
        table = table_of(LEVEL, (0, 0, 2, 0))
        self.tells(LEVEL, table, (0,), ((1,),), ((0,), None))
        self.tells(LEVEL, table, (0,), ((1,), (0,), (0,)), ((0,), None))
        self.tells(LEVEL, table, (1,), ((0,), (1,), (0,), (1,), (0,)), ((1,), (1,), (0,), (0,), None))
        self.tells(LEVEL, table, (2,), ((0,), (0,)), ((2,), None))
        self.tells(LEVEL, table, (2,), ((1,), (0,)), ((2,), (3,), (3,)))

    def test_a_state_with_none(self):
        table = table_of(LEVEL, (-1, 0, 0, 0))
        self.tells(LEVEL, table, (0,), ((0,), (0,)), ((0,),))
        self.tells(LEVEL, table, (0,), ((1,),), ((0,),))
        self.tells(LEVEL, table, (2,), ((1,), (1,), (1,), (0,)), ((2,), (1,), (0,)))
        self.tells(LEVEL, table, (2,), ((1,), (1,)), ((2,), (1,), (0,)))
        self.tells(LEVEL, table, (1,), ((0,), (0,), (1,), (0,)), ((1,), (1,), (1,), (0,)))

    def test_without_inputs_or_disturbances(self):
        up = plant_of((("x", 0, 3),), steps=(("add", X, ONE),))
        table = table_of(up, (0, 0, 0, 0))
        self.tells(up, table, (0,), ((), ()), ((0,), (1,), (2,)))
        self.tells(up, table, (1,), ((),) * 7, ((1,), (2,), (3,), None))
        self.tells(up, table_of(up, (0, 0, -1, 0)), (1,), ((),) * 7, ((1,), (2,)))
        noise = plant_of((("x", 0, 3),), (), (("w", -1, 1),), (("add", X, W),))
        self.tells(noise, table_of(noise, (0,) * 4), (1,), ((1,), (0,), (-1,), (-1,), (-1,), (1,)),
                   ((1,), (2,), (2,), (1,), (0,), None))
        inputs = plant_of((("x", 0, 3),), (("u", 0, 3),), (), (U,))
        self.tells(inputs, table_of(inputs, (3, 2, 1, 0)), (0,), ((),) * 3, ((0,), (3,), (0,), (3,)))

    def test_several_variables(self):
        swap = plant_of((("x", 0, 1), ("y", 0, 1)), (), (("w", 0, 1),), (Y, ("max", X, W)))
        table = table_of(swap, (0,) * 4)
        self.tells(swap, table, (1, 0), ((0,), (0,), (1,)), ((1, 0), (0, 1), (1, 0), (0, 1)))

    def test_a_table_of_inputs_that_are_not_allowed(self):
        plant = plant_of((("x", 0, 3),), (("u", 0, 3),), (), (U,), FALSE)
        self.tells(plant, (((0,), (2,)), ((1,), None), ((2,), (1,)), ((3,), None)), (0,), ((),) * 5, ((0,), (2,), (1,)))

    def test_long_runs(self):
        ring = plant_of((("x", 0, 6),), (), (("w", 0, 1),), (("mod", ("add", X, ("add", W, ONE)), 7),))
        replies = [(at * at % 3 % 2,) for at in range(500)]
        states, x = [(0,)], 0
        for (w,) in replies:
            x = (x + w + 1) % 7
            states.append((x,))
        self.tells(ring, table_of(ring, (0,) * 7), (0,), replies, tuple(states))

    def test_runs_are_plays(self):
        chance = random.Random(64)
        for plant, arena in COMPILED:
            states = states_of(plant)
            every = replies_of(plant)
            for _ in range(20):
                strategy = some_strategy(chance, arena)
                state = chance.choice(states)
                replies = [chance.choice(every) for _ in range(12)]
                found = run(plant, table_of(plant, strategy), state, replies)
                picked, after, now = [], [], state
                for reply in replies:
                    index = strategy[position_of(plant, now)]
                    if index == -1:
                        break
                    now = next_state(plant, now, inputs_of(plant, now)[index], reply)
                    picked.append(index)
                    after.append(-1 if now is None else position_of(plant, now))
                    if now is None:
                        break
                play = play_on(arena, position_of(plant, state), picked, after)
                self.assertEqual(found, tuple(None if at == -1 else states[at] for at in play))
                self.assertEqual(len(play), len(picked) + 1)

    def test_the_told_strategy_for_staying_never_leaves(self):
        chance = random.Random(65)
        plant = plant_of((("x", 0, 9),), (("u", -3, 3),), (("w", -2, 2),), (("add", X, ("add", U, W)),), TRUE)
        keep = positions_where(plant, ("all", (("less", ONE, X), ("less", X, number(8)))))
        paper = told_paper(arena_of(plant), ("stay", keep))
        table = table_of(plant, strategy_of(paper))
        kept = [state for state, label in zip(states_of(plant), paper) if label[0] == "holds"]
        self.assertEqual(kept, [(x,) for x in range(2, 8)])
        for state in kept:
            for _ in range(10):
                found = run(plant, table, state, [chance.choice(replies_of(plant)) for _ in range(200)])
                self.assertEqual(len(found), 201)
                self.assertTrue(all(one in kept for one in found))


if __name__ == "__main__":
    unittest.main()
