"""The whole way: from the text of a plant to a loop that is kept going."""

import random
import unittest

from neverleaves.arenas import check_arena, check_goal
from neverleaves.beats import least_beats
from neverleaves.compiling import arena_of, gains_of, position_of, positions_where
from neverleaves.costs import least_costs
from neverleaves.delays import delayed_arena
from neverleaves.errors import BadText, ControlError, Lost
from neverleaves.judging import judge
from neverleaves.loops import Loop, replayed
from neverleaves.means import means
from neverleaves.papertexts import read_arena, read_paper, write_arena, write_paper
from neverleaves.plants import check_plant, inputs_of, next_state, replies_of, states_of
from neverleaves.plays import follow
from neverleaves.readings import can_know, known_arena
from neverleaves.shields import shield
from neverleaves.solving import owners, told_paper
from neverleaves.strategies import bad_ring, home_steps, least_bad_row, strategy_credit, strategy_of
from neverleaves.tables import run, table_of
from neverleaves.texts import read_condition, read_expression, read_plant, write_condition, write_plant

# A room with a heater: the heat from 0 to 9, and whether the heater is on. It takes effect in the next step.
TEXT = (
    "state heat 0 9\n"
    "state on 0 1\n"
    "input u 0 1\n"
    "noise w -1 0\n"
    "next heat add(heat, add(mul(on, 2), sub(w, if(less(heat, 5), 0, 1))))\n"
    "next on u\n"
    "allow any(less(heat, 9), equal(u, 0))\n"
)
COMFORT = "all(less(1, heat), less(heat, 8))"


class Whole(unittest.TestCase):
    def setUp(self):
        self.plant = read_plant(TEXT)
        check_plant(self.plant)
        self.arena = arena_of(self.plant)
        self.keep = positions_where(self.plant, read_condition(COMFORT))
        self.paper = told_paper(self.arena, ("stay", self.keep))
        self.states = states_of(self.plant)
        self.owned = [state for state, label in zip(self.states, self.paper) if label[0] == "holds"]

    def test_the_texts(self):
        self.assertEqual(write_plant(self.plant), TEXT)
        self.assertEqual(write_condition(read_condition(" " + COMFORT.replace("(", " ( "))), COMFORT)
        self.assertEqual(read_arena(write_arena(self.arena)), self.arena)
        for text in (TEXT[:-1], TEXT + "\n", TEXT.replace("next on u", "next on v"), TEXT.replace("noise w -1", "noise w -01")):
            with self.assertRaises(BadText):
                read_plant(text)

    def test_the_arena(self):
        check_arena(self.arena)
        self.assertEqual(len(self.arena), 20)
        for at, state in enumerate(self.states):
            self.assertEqual(position_of(self.plant, state), at)
            after = {next_state(self.plant, state, inputs_of(self.plant, state)[0], reply) for reply in replies_of(self.plant)}
            self.assertEqual({None if one == -1 else self.states[one] for one in self.arena[at][0]}, after)

    def test_the_papers_of_all_goals(self):
        gains = gains_of(self.plant, read_expression("sub(2, mul(u, 3))"))
        goals = (
            ("stay", self.keep),
            ("come", self.keep),
            ("colours", tuple(2 if at in self.keep else 1 for at in range(20))),
            ("tank", gains),
        )
        for goal in goals:
            check_goal(self.arena, goal)
            paper = told_paper(self.arena, goal)
            self.assertTrue(judge(self.arena, goal, paper))
            self.assertTrue(judge(read_arena(write_arena(self.arena)), goal, read_paper(write_paper(paper))))
            self.assertFalse(judge(self.arena, goal, paper[:-1]))
            mine = ("holds", "comes", "even", "keeps")
            self.assertEqual(owners(self.arena, goal), tuple(
                "controller" if label[0] in mine else "disturbance" for label in paper))
            self.check_strategy(goal, paper, owners(self.arena, goal))

    def check_strategy(self, goal, paper, sides):
        kind, told = goal
        strategy = strategy_of(paper)
        for start, side in enumerate(sides):
            mine = side == "controller"
            if kind == "stay":
                self.assertEqual(least_bad_row(self.arena, told, strategy, start) is None, mine)
            elif kind == "come":
                self.assertEqual(home_steps(self.arena, told, strategy, start), paper[start][1] if mine else None)
            elif kind == "colours":
                self.assertEqual(bad_ring(self.arena, told, strategy, start) is None, mine)
            else:
                self.assertEqual(strategy_credit(self.arena, told, strategy, start), paper[start][1] if mine else None)

    def test_numbers_about_the_arena(self):
        beats = least_beats(self.arena, self.keep)
        sides = owners(self.arena, ("colours", tuple(2 if at in self.keep else 1 for at in range(20))))
        self.assertEqual([beat is not None for beat in beats], [side == "controller" for side in sides])
        self.assertEqual([self.states[at] for at in range(20) if beats[at] == 0], self.owned)
        ones = tuple((1,) * len(options) for options in self.arena)
        costs = least_costs(self.arena, self.keep, ones)
        ranks = [label[1] if label[0] == "comes" else None for label in told_paper(self.arena, ("come", self.keep))]
        self.assertEqual(list(costs), ranks)
        found = means(self.arena, ones)
        sides = owners(self.arena, ("stay", tuple(range(20))))
        self.assertEqual(found, tuple((1, 1) if side == "controller" else None for side in sides))

    def test_readings_and_delays(self):
        starts = tuple(position_of(self.plant, state) for state in self.owned)
        heats = tuple(heat for heat, _ in self.states)
        for start in starts:
            self.assertTrue(can_know(self.arena, self.keep, heats, (start,)))
        self.assertTrue(can_know(self.arena, self.keep, tuple(range(20)), starts))
        check_arena(known_arena(self.arena, heats, starts)[0])
        delayed, pairs = delayed_arena(self.arena, 1)
        check_arena(delayed)
        self.assertEqual(len(pairs), 40)
        kept = tuple(number for number, (at, _) in enumerate(pairs) if at in self.keep)
        sides = owners(delayed, ("stay", kept))
        for (at, _), side in zip(pairs, sides):
            self.assertTrue(side == "disturbance" or at in starts)

    def test_runs_never_leave(self):
        chance = random.Random(74)
        self.assertEqual(self.owned, [
            (2, 1), (3, 0), (3, 1), (4, 0), (4, 1), (5, 0), (5, 1), (6, 0), (6, 1), (7, 0),
        ])
        table = table_of(self.plant, strategy_of(self.paper))
        for state in self.owned:
            states = run(self.plant, table, state, [chance.choice(replies_of(self.plant)) for _ in range(300)])
            self.assertEqual(len(states), 301)
            self.assertTrue(all(one in self.owned for one in states))
            play = follow(self.arena, self.paper, position_of(self.plant, state), [chance.randrange(9) for _ in range(300)])
            self.assertEqual(len(play), 301)
            self.assertTrue(set(play) <= set(self.keep))

    def test_a_loop_that_is_kept_going(self):
        chance = random.Random(75)
        start = position_of(self.plant, (5, 0))
        loop = Loop(self.arena, self.keep, start)
        self.assertEqual(loop.paper(), self.paper)
        safe = shield(self.arena, self.keep)
        table = dict(table_of(self.plant, strategy_of(loop.paper())))
        for _ in range(200):
            state = self.states[loop.position()]
            if chance.random() < 0.5:
                after = next_state(self.plant, state, table[state], chance.choice(replies_of(self.plant)))
                deed = ("step", position_of(self.plant, after))
            else:
                option = chance.choice(safe[loop.position()])
                deed = ("pick", option, chance.choice(self.arena[loop.position()][option]))
            self.assertEqual(loop.do(deed), deed[-1])
            self.assertIn(loop.position(), self.keep)
        self.assertEqual(replayed(self.arena, self.keep, start, loop.journal()).position(), loop.position())
        with self.assertRaises(Lost):
            loop.do(("keep", ()))
        with self.assertRaises(ControlError):
            loop.do(("move", 20))
        # The heater breaks down where it is too cold already: the plant is kept all the same.
        position = position_of(self.plant, (0, 1))
        loop.do(("change", position, ()))
        self.assertEqual(loop.arena()[position], ())
        self.assertTrue(judge(loop.arena(), ("stay", loop.keep()), loop.paper()))


if __name__ == "__main__":
    unittest.main()
