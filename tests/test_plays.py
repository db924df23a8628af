"""Point [15] and the interface of play_on and follow."""

import unittest

from neverleaves.plays import follow, play_on

HUGE = 10 ** 80

# 0 has three options, 1 has one, 2 is stuck, 3 has options that may or must be out.
ARENA = (((0, 1), (2,), (-1, 1, 3)), ((0,),), (), ((-1,), (-1, 0, 3)))


class PlayOn(unittest.TestCase):
    def plays(self, start, options, replies, positions):
        for one in (tuple, list):
            for other in (tuple, list):
                play = play_on(ARENA, start, one(options), other(replies))
                self.assertEqual(repr(play), repr(positions))

    def test_as_long_as_there_are_picks(self):
        self.plays(0, (0, 0, 2), (0, 1, 0), (0, 0, 1))
        self.plays(0, (0, 0, 0), (0, 1, 0), (0, 0, 1, 0))
        self.plays(0, (2, 1, 0, 0, 0), (3, 3, 1, 1, 1), (0, 3, 3))
        self.plays(0, (2, 1, 1, 0, 0), (3, 3, 0, 1, 0), (0, 3, 3, 0, 1, 0))
        self.plays(1, (0, 0), (0, 0), (1, 0, 0))

    def test_options_are_used_up(self):
        self.plays(0, (), (), (0,))
        self.plays(0, (), (0, 0, 0), (0,))
        self.plays(0, (0,), (1, 0, 1), (0, 1))
        self.plays(0, (0, 0), (1, 0, 1), (0, 1, 0))

    def test_replies_are_used_up(self):
        self.plays(0, (0, 0, 0), (), (0,))
        self.plays(0, (0, 0, 0), (1,), (0, 1))
        self.plays(3, (1, 1, 1), (3, 3), (3, 3, 3))

    def test_out(self):
        self.plays(3, (0,), (-1,), (3, -1))
        self.plays(3, (1,), (-1,), (3, -1))
        self.plays(3, (0, 0, 0, 0), (-1, -1, 0, 0), (3, -1))
        self.plays(0, (0, 2, 0, 0), (0, -1, 0, 0), (0, 0, -1))

    def test_stuck(self):
        self.plays(2, (), (), (2,))
        self.plays(2, (0, 0), (0, 0), (2,))
        self.plays(0, (1, 0, 0), (2, 0, 0), (0, 2))
        self.plays(2, (-1,), (-1,), (2,))

    def test_no_index_of_an_option(self):
        for index in (3, 4, -1, -2, -3, -4, HUGE, -HUGE):
            self.plays(0, (index,), (1,), (0,))
            self.plays(0, (0, index, 0), (0, 1, 0), (0, 0))
            self.plays(0, (0, index, 0), (0, 0, 0), (0, 0))
            self.plays(0, (0, index, 0), (0, 2, 0), (0, 0))
        for index in (1, -1, HUGE, -HUGE):
            self.plays(1, (index,), (0,), (1,))
        for index in (2, -1, -2):
            self.plays(3, (1, index), (3, -1), (3, 3))

    def test_no_successor_of_the_option(self):
        for reply in (2, 3, 4, -1, -2, HUGE, -HUGE):
            self.plays(0, (0,), (reply,), (0,))
            self.plays(0, (0, 0, 0), (0, reply, 0), (0, 0))
        for reply in (1, 2, 4, -2):
            self.plays(3, (1, 1), (3, reply), (3, 3))
        # A successor of another option is none of this one.
        self.plays(0, (1,), (1,), (0,))
        self.plays(3, (0,), (3,), (3,))

    def test_lists_stay_as_they_were(self):
        options, replies = [0, 0, 2], [0, 0, -1]
        self.assertEqual(play_on(ARENA, 0, options, replies), (0, 0, 0, -1))
        self.assertEqual((options, replies), ([0, 0, 2], [0, 0, -1]))


class Follow(unittest.TestCase):
    def check(self, arena, paper, start, picks, positions):
        for kind in (tuple, list):
            play = follow(arena, paper, start, kind(picks))
            self.assertEqual(repr(play), repr(positions))

    def test_holds(self):
        arena = (((0,), (0, 1, 2)), ((0, 2),), ((1,),), ((-1,),))
        paper = (("holds", 1), ("holds", 0), ("holds", 0), ("driven", 1, (-1,)))
        self.check(arena, paper, 0, (), (0,))
        self.check(arena, paper, 0, (0,), (0, 0))
        self.check(arena, paper, 0, (1,), (0, 1))
        self.check(arena, paper, 0, (2, 0, 1, 0), (0, 2, 1, 2, 1))
        # Only what is left by the number of successors counts.
        self.check(arena, paper, 0, (3, 4, 2), (0, 0, 1, 0))
        self.check(arena, paper, 0, (-1,), (0, 2))
        self.check(arena, paper, 0, (-2,), (0, 1))
        self.check(arena, paper, 0, (-3, -3, -4), (0, 0, 0, 2))
        self.check(arena, paper, 1, (-1, -1, -1), (1, 2, 1, 2))
        self.check(arena, paper, 0, (3 * HUGE + 2, -3 * HUGE, 6 * HUGE + 1), (0, 2, 1, 2))
        self.check(arena, paper, 0, (3 * HUGE, -3 * HUGE - 1, 7), (0, 0, 2, 1))

    def test_driven(self):
        arena = (((0, 1), (1, 2)), ((0,), (1, 2), (-1, 0)), ((0, 2), (2,)), ())
        paper = (("driven", 1, (1, 1)), ("driven", 0, ()), ("holds", 1), ("driven", 1, ()))
        self.check(arena, paper, 0, (0, 0, 0), (0, 1))
        self.check(arena, paper, 0, (1, 0, 0), (0, 1))
        self.check(arena, paper, 1, (0, 0), (1,))
        self.check(arena, paper, 3, (0, 0), (3,))
        keep = (("driven", 3, (1, 1)), ("driven", 2, (0, 2, -1)), ("driven", 1, (-1, 3)), ("driven", 1, ()))
        arena = (((1,), (1, 2)), ((0, 1), (0, 2), (-1, 1)), ((-1, 2), (2, 3)), ())
        # These replies are no longer told ones, but it is they that are picked.
        self.check(arena, keep, 1, (2, 7), (1, -1))
        self.check(arena, keep, 1, (1, 0, 5), (1, 2, -1))
        self.check(arena, keep, 1, (1, 1, 5, 5), (1, 2, 3))
        self.check(arena, keep, 1, (-1, 0), (1, -1))
        self.check(arena, keep, 1, (-2, -2, 9), (1, 2, -1))
        self.check(arena, keep, 1, (3 * HUGE + 1, 2 * HUGE + 1, HUGE), (1, 2, 3))

    def test_comes(self):
        arena = (((0,), (1, 2)), ((3,), (3,)), ((1, 3), (0,)), ((0, 1, 2),), ())
        paper = (("comes", 3, 1), ("comes", 1, 1), ("comes", 2, 0), ("comes", 0, -1), ("comes", 0, -1))
        self.check(arena, paper, 0, (0, 0, 0, 0), (0, 1, 3))
        self.check(arena, paper, 0, (1, 0, 1, 0), (0, 2, 1, 3))
        self.check(arena, paper, 0, (1, 1, 1, 0), (0, 2, 3))
        self.check(arena, paper, 0, (-1, -1), (0, 2, 3))
        self.check(arena, paper, 0, (1,), (0, 2))
        self.check(arena, paper, 3, (0, 0), (3,))
        self.check(arena, paper, 4, (0, 0), (4,))

    def test_away(self):
        arena = (((1, 2), (0, 1), (-1, 2)), ((0, 2), (1,)), ((2,),), ())
        paper = (("away", (1, 0, -1)), ("away", (0, 1)), ("comes", 0, -1), ("away", ()))
        self.check(arena, paper, 0, (0, 0, 1, 1), (0, 1, 0, 0, 0))
        self.check(arena, paper, 0, (3, 3, 3), (0, 1, 1, 1))
        self.check(arena, paper, 0, (1, 2, 0), (0, 0, -1))
        self.check(arena, paper, 0, (-1, 0), (0, -1))
        self.check(arena, paper, 0, (-3, -2, -3), (0, 1, 0, 1))
        self.check(arena, paper, 3, (0, 0), (3,))

    def test_even(self):
        arena = (((1,), (0, 1)), ((0, 1), (0,)))
        paper = (("even", (1,), 1), ("even", (1,), 0))
        self.check(arena, paper, 0, (0, 1, 1, 0), (0, 0, 1, 1, 0))
        self.check(arena, paper, 1, (-1, -2, 2 * HUGE + 1), (1, 1, 0, 1))

    def test_odd(self):
        arena = (((0, 1), (1,)), ((-1, 0), (0, 1)), ())
        paper = (("odd", (1,), (0, 1)), ("odd", (1,), (-1, 1)), ("odd", (0,), ()))
        self.check(arena, paper, 0, (0, 1, 1, 1, 0, 0), (0, 0, 1, 1, 1, -1))
        self.check(arena, paper, 0, (-2, -1, -1, HUGE), (0, 0, 1, 1, -1))
        self.check(arena, paper, 2, (0, 1), (2,))

    def test_keeps_and_drained(self):
        arena = (((1,), (0, 1)), ((0, 1),), ((2, 3), (2,)), ((-1, 2),), ())
        paper = (("keeps", 0, 1), ("keeps", 3, 0), ("drained", 9, (3, 2)), ("drained", 4, (-1,)), ("drained", 0, ()))
        self.check(arena, paper, 0, (0, 1, 1, 0), (0, 0, 1, 1, 0))
        self.check(arena, paper, 1, (-1, -2), (1, 1, 0))
        self.check(arena, paper, 2, (1, 3, 0, 0, 0), (2, 2, 2, 3, -1))
        self.check(arena, paper, 2, (2, 2), (2, 3, -1))
        self.check(arena, paper, 4, (7,), (4,))

    def test_out_is_the_end_whatever_the_last_position_is(self):
        arena = (((-1,), (-1, 0)), ((1,),))
        for label in (("driven", 1, (-1, -1)), ("away", (-1, -1)), ("odd", (0,), (-1, -1)), ("drained", 0, (-1, -1))):
            for other in (("holds", 0), ("even", (), 0), ("keeps", 0, 0), ("away", (1,)), ("odd", (0,), (1,))):
                self.check(arena, (label, other), 0, (0, 0, 0), (0, -1))
                self.check(arena, (label, other), 0, (1, 5, 7), (0, -1))
                self.check(arena, (label, other), 1, (0, 0, 0), (1, 1, 1, 1))
        arena = (((1,),), ((0,), (-1, 0)), ((2,),))
        paper = (("away", (1,)), ("away", (0, -1)), ("comes", 5, 0))
        self.check(arena, paper, 0, (0, 1, 0, 0), (0, 1, -1))
        self.check(arena, paper, 0, (0, 0, 0, 1, 0, 0), (0, 1, 0, 1, -1))

    def test_a_rank_of_0_ends_plays_of_these_two_kinds_only(self):
        arena = (((0,),),)
        self.check(arena, (("keeps", 0, 0),), 0, (5, 5), (0, 0, 0))
        self.check(arena, (("drained", 0, (0,)),), 0, (5, 5), (0, 0, 0))
        self.check(arena, (("comes", 0, -1),), 0, (5, 5), (0,))
        self.check(arena, (("driven", 0, ()),), 0, (5, 5), (0,))

    def test_picks_stay_as_they_were(self):
        picks = [4, -3, 10 ** 30]
        follow((((0,),),), (("holds", 0),), 0, picks)
        self.assertEqual(picks, [4, -3, 10 ** 30])


if __name__ == "__main__":
    unittest.main()
