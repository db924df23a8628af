"""Point [40]: the shield of an arena and a goal of staying."""

import random
import unittest

from neverleaves.plays import play_on
from neverleaves.shields import shield
from neverleaves.solving import owners
from tests import oracles
from tests.some_arenas import some_games


class Shields(unittest.TestCase):
    def tells(self, arena, keep, indexes):
        with self.subTest(arena=arena, keep=keep):
            self.assertEqual(repr(shield(arena, keep)), repr(indexes))

    def test_the_empty_arena(self):
        self.tells((), (), ())

    def test_one_position(self):
        for options, indexes in (
            ((), ()),
            (((-1,),), ()),
            (((-1, 0),), ()),
            (((0,),), (0,)),
            (((-1,), (0,)), (1,)),
            (((0,), (-1, 0), (0,), (-1,), (0,)), (0, 2, 4)),
        ):
            self.tells((options,), (0,), (indexes,))
            self.tells((options,), (), ((),))

    def test_nothing_to_keep(self):
        self.tells((((0, 1),), ((0,), (1,))), (), ((), ()))

    def test_positions_that_are_not_kept(self):
        arena = (((0,), (1,), (0, 1)), ((0,), (1,)), ((0,), (2,), (1,)))
        self.tells(arena, (0, 1, 2), ((0, 1, 2), (0, 1), (0, 1, 2)))
        self.tells(arena, (0, 2), ((0,), (), (0, 1)))
        self.tells(arena, (1, 2), ((), (1,), (1, 2)))
        self.tells(arena, (0,), ((0,), (), ()))

    def test_ways_out_and_stuck_positions(self):
        arena = (((1,), (2,), (3,), (-1, 4), (4,)), ((-1,),), (), ((1, 4),), ((0, 4), (4,), (-1,), (2,)))
        self.tells(arena, (0, 1, 2, 3, 4), ((4,), (), (), (), (0, 1)))

    def test_all_successors_count(self):
        arena = (((0, 1, 2),), ((1,), (0, 1), (1, 2)), ((2,), (2, 3), (1, 2)), ())
        self.tells(arena, (0, 1, 2, 3), ((0,), (0, 1, 2), (0, 2), ()))
        self.tells(arena, (1, 2), ((), (0, 2), (0, 2), ()))

    def test_options_that_are_lost_only_later(self):
        # From 1 on the play is lost after a long way, whatever is picked.
        arena = (((0,), (1,)),) + tuple(((at, at + 1), (at + 1,)) for at in range(1, 50)) + ((),)
        self.tells(arena, tuple(range(51)), ((0,),) + ((),) * 50)

    def test_many_options(self):
        options = tuple((0,) if index % 7 == 3 else (0, 1) if index % 2 else (-1, 0) for index in range(60))
        fitting = tuple(index for index in range(60) if index % 7 == 3)
        self.tells((options, ()), (0, 1), (fitting, ()))
        every = tuple(index for index in range(60) if index % 7 == 3 or index % 2)
        self.tells((options, ((1,),)), (0, 1), (every, (0,)))

    def test_many_positions(self):
        row = tuple(((at,), (at + 1 if at < 199 else 0,), (at - 1,)) for at in range(200))
        self.tells(row, tuple(range(200)), ((0, 1),) + ((0, 1, 2),) * 199)
        self.tells(row, tuple(range(1, 200)), ((),) + ((0, 1),) + ((0, 1, 2),) * 197 + ((0, 2),))
        falling = tuple(((at + 1,),) for at in range(199)) + ((-1,),)
        self.tells((((0,),),) + falling[1:], tuple(range(199)), ((0,),) + ((),) * 199)

    def test_against_the_document(self):
        for arena, goal in some_games(40, 800):
            if goal[0] not in ("stay", "come"):
                continue
            owned = oracles.stay_owned(arena, goal[1])
            told = tuple(
                tuple(k for k, option in enumerate(options) if set(option) <= owned) if at in owned else ()
                for at, options in enumerate(arena))
            self.assertEqual(shield(arena, goal[1]), told)
            sides = owners(arena, ("stay", goal[1]))
            self.assertEqual([indexes != () for indexes in told], [side == "controller" for side in sides])

    def test_any_option_of_the_shield_keeps_the_goal(self):
        chance = random.Random(41)
        plays = 0
        for arena, goal in some_games(42, 300):
            if goal[0] != "stay":
                continue
            safe = shield(arena, goal[1])
            for start in range(len(arena)):
                if safe[start] != ():
                    self.stays(chance, arena, goal[1], safe, start)
                    plays += 1
        self.assertGreater(plays, 200)

    def stays(self, chance, arena, keep, safe, start):
        picked, replies, at = [], [], start
        for _ in range(60):
            self.assertIn(at, keep)
            picked.append(chance.choice(safe[at]))
            replies.append(chance.choice(arena[at][picked[-1]]))
            at = replies[-1]
        play = play_on(arena, start, picked, replies)
        self.assertEqual(len(play), 61)
        self.assertTrue(set(play) <= set(keep))

    def test_any_other_option_can_be_answered(self):
        for arena, goal in some_games(43, 300):
            if goal[0] != "stay":
                continue
            safe = shield(arena, goal[1])
            sides = owners(arena, goal)
            for at, options in enumerate(arena):
                for index, option in enumerate(options):
                    if sides[at] == "controller" and index not in safe[at]:
                        self.assertTrue(any(after == -1 or sides[after] == "disturbance" for after in option))


if __name__ == "__main__":
    unittest.main()
