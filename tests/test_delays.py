"""Points [42], [43]: the delayed arena, and that a longer delay never helps."""

import itertools
import random
import unittest

from neverleaves.arenas import check_arena
from neverleaves.delays import delayed_arena
from neverleaves.plays import play_on
from neverleaves.solving import owners
from tests import searches
from tests.some_arenas import some_games

HUGE = 10 ** 30


def some_delayed(seed, times, most_positions=5):
    """Arenas with delays for which there are not too many pairs."""
    for arena, goal in some_games(seed, times, most_positions):
        if goal[0] == "stay":
            most = max(len(options) for options in arena)
            for delay in range(5):
                if len(arena) * most ** delay <= 200:
                    yield arena, goal[1], delay


class DelayedArenas(unittest.TestCase):
    def tells(self, arena, delay, delayed, pairs):
        with self.subTest(arena=arena, delay=delay):
            self.assertEqual(repr(delayed_arena(arena, delay)), repr((delayed, pairs)))
            self.assertIsNone(check_arena(delayed))

    def test_the_empty_arena(self):
        for delay in (0, 1, 2, 7, HUGE):
            self.tells((), delay, (), ())

    def test_no_position_has_options(self):
        self.tells(((),), 0, ((),), ((0, ()),))
        self.tells(((), (), ()), 0, ((), (), ()), ((0, ()), (1, ()), (2, ())))
        for delay in (1, 2, 7, HUGE):
            self.tells(((), (), ()), delay, (), ())

    def test_without_a_delay(self):
        arena = (((0, 1), (1,)), ((-1, 0), (2,)), ((1,), (0, 1, 2)))
        self.tells(arena, 0, arena, ((0, ()), (1, ()), (2, ())))

    def test_an_option_that_a_position_lacks_is_out(self):
        arena = (((0,), (1,), (2,)), ((-1, 0),), ())
        self.tells(arena, 0, (((0,), (1,), (2,)), ((-1, 0), (-1,), (-1,)), ((-1,), (-1,), (-1,))),
                   ((0, ()), (1, ()), (2, ())))

    def test_a_delay_of_1(self):
        arena = (((0, 1), (1,)), ((-1, 0),))
        pairs = ((0, (0,)), (0, (1,)), (1, (0,)), (1, (1,)))
        self.tells(arena, 1, (((0, 2), (1, 3)), ((2,), (3,)), ((-1, 0), (-1, 1)), ((-1,), (-1,))), pairs)
        arena = (((-1,), (-1, 1)), ())
        self.tells(arena, 1, (((-1,), (-1,)), ((-1, 2), (-1, 3)), ((-1,), (-1,)), ((-1,), (-1,))), pairs)

    def test_a_delay_of_2(self):
        arena = (((0,), (1,)), ((0, 1),))
        self.tells(arena, 2, (
            ((0,), (1,)), ((2,), (3,)), ((4,), (5,)), ((6,), (7,)),
            ((0, 4), (1, 5)), ((2, 6), (3, 7)), ((-1,), (-1,)), ((-1,), (-1,)),
        ), tuple((at, queue) for at in (0, 1) for queue in ((0, 0), (0, 1), (1, 0), (1, 1))))

    def test_one_option_each(self):
        arena = (((1,),), ((0, 1),), ((-1, 2),), ())
        for delay in (0, 1, 2, 3, 10, 1000, 200000):
            found, pairs = delayed_arena(arena, delay)
            self.assertEqual(found, (((1,),), ((0, 1),), ((-1, 2),), ((-1,),)))
            self.assertEqual(pairs, tuple((at, (0,) * delay) for at in range(4)))

    def test_the_order_of_the_pairs(self):
        arena = (((0,), (0,), (0,)), ())
        self.assertEqual(delayed_arena(arena, 4)[1], tuple(
            (at, queue) for at in (0, 1) for queue in itertools.product((0, 1, 2), repeat=4)))
        self.assertEqual(len(delayed_arena((((0,), (0,)), ((0,),), ()), 6)[1]), 192)

    def test_many_options(self):
        arena = (tuple((0, 1, 2) if index % 2 else (-1, index % 3) for index in range(60)), ((0,),), ())
        for delay in (0, 1):
            self.assertEqual(delayed_arena(arena, delay), searches.delayed_arena(arena, delay))
        whole = tuple(range(200))
        arena = ((whole,) * 60,) * 200
        self.assertEqual(delayed_arena(arena, 0), (arena, tuple((at, ()) for at in whole)))

    def test_against_the_document(self):
        delays = {}
        for arena, _, delay in some_delayed(58, 250):
            found, pairs = delayed_arena(arena, delay)
            self.assertEqual((found, pairs), searches.delayed_arena(arena, delay))
            self.assertEqual(pairs, tuple(sorted(pairs)))
            check_arena(found)
            delays[delay] = delays.get(delay, 0) + 1
        self.assertGreater(min(delays.values()), 40)

    def test_plays_with_the_picks_made_ahead(self):
        chance = random.Random(59)
        for arena, _, delay in some_delayed(60, 120):
            found, pairs = delayed_arena(arena, delay)
            most = max(len(options) for options in arena)
            for number in chance.sample(range(len(pairs)), min(6, len(pairs))):
                if most:
                    self.compare(chance, arena, found, pairs, number, [chance.randrange(most) for _ in range(8)])

    def compare(self, chance, arena, found, pairs, number, picks):
        """A play of the delayed arena is one of the arena, with the queue picked before all else."""
        replies, here = [], number
        for pick in picks:
            replies.append(chance.choice(found[here][pick]))
            here = replies[-1]
            if here == -1:
                break
        play = play_on(found, number, picks, replies)
        self.assertEqual(len(play), len(replies) + 1)
        at, queue = pairs[number]
        places = [one if one == -1 else pairs[one][0] for one in play]
        picked = list(queue) + picks
        other = play_on(arena, at, picked[:len(replies)], places[1:])
        if len(other) < len(places):
            # A position lacked the option: there the delayed play is out.
            self.assertEqual((len(other), places[-1]), (len(places) - 1, -1))
            self.assertGreaterEqual(picked[len(other) - 1], len(arena[other[-1]]))
            places = places[:-1]
        self.assertEqual(list(other), places)
        for step, one in enumerate(play):
            if one != -1:
                self.assertEqual(list(pairs[one][1]), picked[step:step + len(queue)])


class LongerDelays(unittest.TestCase):
    def owned(self, arena, keep, delay):
        found, pairs = delayed_arena(arena, delay)
        kept = tuple(number for number, (at, _) in enumerate(pairs) if at in keep)
        sides = owners(found, ("stay", kept))
        return {pair for pair, side in zip(pairs, sides) if side == "controller"}

    def test_a_longer_delay_never_helps(self):
        worse = 0
        for arena, keep, delay in some_delayed(61, 1500):
            if delay > 0:
                longer = self.owned(arena, keep, delay)
                shorter = self.owned(arena, keep, delay - 1)
                for at, queue in longer:
                    self.assertIn((at, queue[:-1]), shorter)
                worse += len(shorter - {(at, queue[:-1]) for at, queue in longer})
        self.assertGreater(worse, 50)

    def test_without_a_delay_it_is_the_arena(self):
        for arena, keep, delay in some_delayed(62, 200):
            if delay == 0:
                sides = owners(arena, ("stay", keep))
                self.assertEqual({at for at, _ in self.owned(arena, keep, 0)},
                                 {at for at, side in enumerate(sides) if side == "controller"})

    def test_a_delay_with_which_the_goal_is_lost(self):
        # What is right depends on the reply that has just come.
        arena = (((1, 2),), ((0,), (3,)), ((3,), (0,)), ())
        keep = (0, 1, 2)
        self.assertEqual(self.owned(arena, keep, 0), {(0, ()), (1, ()), (2, ())})
        self.assertEqual(self.owned(arena, keep, 1), set())
        self.assertEqual(self.owned(arena, keep, 2), set())
        # Without a choice of the disturbance it can be known ahead what will be right.
        arena = (((1,), (3,)), ((3,), (2,)), ((0,), (3,)), ())
        self.assertEqual(self.owned(arena, keep, 0), {(0, ()), (1, ()), (2, ())})
        self.assertEqual(self.owned(arena, keep, 1), {(0, (0,)), (1, (1,)), (2, (0,))})
        self.assertEqual(self.owned(arena, keep, 2), {(0, (0, 1)), (1, (1, 0)), (2, (0, 0))})
        self.assertEqual(self.owned(arena, keep, 3), {(0, (0, 1, 0)), (1, (1, 0, 0)), (2, (0, 0, 1))})


if __name__ == "__main__":
    unittest.main()
