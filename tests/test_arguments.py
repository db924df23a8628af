"""Point [2]: arguments stay as they were, and results share nothing with them that may change."""

import unittest

from neverleaves.arenas import check_arena, check_goal
from neverleaves.beats import least_beats
from neverleaves.compiling import arena_of, gains_of, position_of, positions_where
from neverleaves.costs import least_costs
from neverleaves.delays import delayed_arena
from neverleaves.expressions import check_condition, check_expression, holds, names_in, value_of
from neverleaves.judging import judge
from neverleaves.loops import Loop, replayed
from neverleaves.means import means
from neverleaves.papertexts import read_arena, read_paper, write_arena, write_paper
from neverleaves.plants import check_plant, inputs_of, next_state, replies_of, states_of
from neverleaves.plays import follow, play_on
from neverleaves.readings import can_know, known_arena
from neverleaves.shields import shield
from neverleaves.solving import owners, told_paper
from neverleaves.strategies import bad_ring, home_steps, least_bad_row, strategy_credit, strategy_of
from neverleaves.tables import run, table_of
from neverleaves.texts import (
    read_condition, read_expression, read_plant, write_condition, write_expression, write_plant,
)
from tests.samples import WRITTEN_CONDITIONS, WRITTEN_EXPRESSIONS, X
from tests.some_arenas import EMPTY_GOALS, some_games
from tests.test_plant_texts import FULL, PLANTS


class Values(dict):
    """A dict that tells if it is changed."""

    def refuse(self, *told):
        raise AssertionError("the values were changed")

    __setitem__ = __delitem__ = clear = pop = popitem = setdefault = update = refuse


class Arguments(unittest.TestCase):
    def unchanged(self, function, *arguments):
        """The arguments stay as they were, and the result, which is returned, is the same again."""
        before = repr(arguments)
        first = function(*arguments)
        self.assertEqual(repr(arguments), before)
        self.assertEqual(repr(function(*arguments)), repr(first))
        return first

    def tuples(self, function, *arguments):
        """The same, and the result is a tuple all through."""
        first = self.unchanged(function, *arguments)
        self.assertIsInstance(first, tuple)
        hash(first)
        return first

    def test_expressions(self):
        for expression, text in WRITTEN_EXPRESSIONS:
            values = Values({name: 3 for name in names_in(expression)} | {"more": 4})
            self.unchanged(check_expression, expression)
            self.unchanged(names_in, expression)
            self.unchanged(write_expression, expression)
            self.unchanged(read_expression, text)
            self.unchanged(value_of, expression, values)

    def test_conditions(self):
        for condition, text in WRITTEN_CONDITIONS:
            values = Values({name: 3 for name in names_in(condition)} | {"more": 4})
            self.unchanged(check_condition, condition)
            self.unchanged(names_in, condition)
            self.unchanged(write_condition, condition)
            self.unchanged(read_condition, text)
            self.unchanged(holds, condition, values)

    def test_plants(self):
        for plant, text in PLANTS:
            self.unchanged(write_plant, plant)
            self.unchanged(read_plant, text)

    def test_plants_and_their_steps(self):
        self.unchanged(check_plant, FULL)
        self.tuples(states_of, FULL)
        self.tuples(replies_of, FULL)
        for state in ((0, -5), (1, 0), (9, 5)):
            for move in self.tuples(inputs_of, FULL, state):
                for reply in replies_of(FULL):
                    self.unchanged(next_state, FULL, state, move, reply)
        self.tuples(next_state, FULL, (0, 0), (0, 0), (0, -3))
        self.tuples(arena_of, FULL)
        self.tuples(positions_where, FULL, ("less", X, ("number", 3)))
        self.tuples(gains_of, FULL, X)
        self.unchanged(position_of, FULL, (3, 2))

    def test_arenas_and_goals(self):
        games = list(some_games(2, 60)) + [((), goal) for goal in EMPTY_GOALS]
        for arena, goal in games:
            self.unchanged(check_arena, arena)
            self.unchanged(check_goal, arena, goal)
            paper = self.tuples(told_paper, arena, goal)
            self.tuples(owners, arena, goal)
            self.assertIs(self.unchanged(judge, arena, goal, paper), True)
            strategy = self.tuples(strategy_of, paper)
            self.assertEqual(self.tuples(read_arena, self.unchanged(write_arena, arena)), arena)
            self.assertEqual(self.tuples(read_paper, self.unchanged(write_paper, paper)), paper)
            for start in range(len(arena)):
                self.strategies(arena, goal, strategy, start)
                for kind in (list, tuple):
                    self.tuples(follow, arena, paper, start, kind((3, -1, 0, 5, 10 ** 30)))
                    self.tuples(play_on, arena, start, kind((0, 1, 0, 5)), kind((0, 1, 1, 0)))

    def strategies(self, arena, goal, strategy, start):
        if goal[0] in ("stay", "come"):
            row = self.unchanged(least_bad_row, arena, goal[1], strategy, start)
            self.assertIsInstance(row, (tuple, None.__class__))
            self.unchanged(home_steps, arena, goal[1], strategy, start)
        if goal[0] == "colours":
            hash(self.unchanged(bad_ring, arena, goal[1], strategy, start))
        if goal[0] == "tank":
            self.unchanged(strategy_credit, arena, goal[1], strategy, start)

    def test_shields_beats_costs_and_means(self):
        games = list(some_games(3, 60)) + [((), goal) for goal in EMPTY_GOALS]
        for arena, goal in games:
            if goal[0] in ("stay", "come"):
                self.assertEqual(len(self.tuples(shield, arena, goal[1])), len(arena))
                self.assertEqual(len(self.tuples(least_beats, arena, goal[1])), len(arena))
                costs = tuple(tuple(7 * index % 5 for index in range(len(options))) for options in arena)
                self.assertEqual(len(self.tuples(least_costs, arena, goal[1], costs)), len(arena))
            if goal[0] == "tank":
                self.assertEqual(len(self.tuples(means, arena, goal[1])), len(arena))

    def test_delays_and_readings(self):
        games = list(some_games(4, 60, 5)) + [((), ("stay", ()))]
        for arena, goal in games:
            if goal[0] != "stay":
                continue
            readings = tuple(at % 2 for at in range(len(arena)))
            for starts in ((), tuple(range(len(arena))), tuple(range(0, len(arena), 2))):
                self.tuples(known_arena, arena, readings, starts)
                self.assertIsInstance(self.unchanged(can_know, arena, goal[1], readings, starts), bool)
            for delay in (0, 1, 2):
                self.tuples(delayed_arena, arena, delay)

    def test_tables_and_runs(self):
        arena = arena_of(FULL)
        table = self.tuples(table_of, FULL, tuple(0 if options else -1 for options in arena))
        for kind in (list, tuple):
            for state in states_of(FULL)[::7]:
                self.tuples(run, FULL, table, state, kind(replies_of(FULL)[:9]))
        replies = [(0, -3), (1, -3)]
        states = run(FULL, table, (3, 0), replies)
        before = repr(states)
        replies[0] = (2, -7)
        self.assertEqual(repr(states), before)

    def test_loops(self):
        for arena, goal in some_games(5, 60):
            if goal[0] != "stay" or "controller" not in owners(arena, goal):
                continue
            start = owners(arena, goal).index("controller")
            before = repr((arena, goal))
            option = told_paper(arena, goal)[start][1]
            deeds = [("step", arena[start][option][0]), ("move", start), ("pick", option, arena[start][option][-1]), ("hold",),
                     ("change", 0, arena[0]), ("keep", goal[1]), ("resume",)]
            loop = Loop(arena, goal[1], start)
            for deed in deeds:
                told = repr(deed)
                loop.do(deed)
                self.assertEqual(repr(deed), told)
                hash((loop.arena(), loop.keep(), loop.paper(), loop.journal()))
            for kind in (list, tuple):
                journal = kind(deeds)
                again = replayed(arena, goal[1], start, journal)
                self.assertEqual(journal, kind(deeds))
                self.assertIsInstance(again.journal(), tuple)
                self.assertEqual(again.journal(), loop.journal())
            self.assertEqual(repr((arena, goal)), before)

    def test_lists_that_were_passed_may_change_later(self):
        arena = (((0, 1),), ((0,),))
        options, replies, picks = [0, 0], [1, 0], [1, 0]
        play = play_on(arena, 0, options, replies)
        other = follow(arena, told_paper(arena, ("stay", (0, 1))), 0, picks)
        for row in (options, replies, picks):
            row.append(7)
            row[0] = 9
        self.assertEqual(play, (0, 1, 0))
        self.assertEqual(other, (0, 1, 0))

    def test_later_changes_to_the_values_count_only_later(self):
        values = {"x": 3}
        before = value_of(("name", "x"), values)
        values["x"] = 4
        self.assertEqual((before, value_of(("name", "x"), values)), (3, 4))

    def test_what_is_read_is_made_of_tuples_throughout(self):
        for _, text in WRITTEN_EXPRESSIONS:
            hash(read_expression(text))
        for _, text in WRITTEN_CONDITIONS:
            hash(read_condition(text))
        for _, text in PLANTS:
            hash(read_plant(text))


if __name__ == "__main__":
    unittest.main()
