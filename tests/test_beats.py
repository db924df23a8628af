"""Point [41], with point [18]: the least beat of coming home again and again."""

import itertools
import random
import unittest

from neverleaves.beats import least_beats
from neverleaves.solving import owners
from tests import searches
from tests.some_arenas import arena_with, some_games


def ring(many, step=1):
    return tuple((((at + step) % many,),) for at in range(many))


class Beats(unittest.TestCase):
    def tells(self, arena, home, beats):
        with self.subTest(arena=arena, home=home):
            self.assertEqual(repr(least_beats(arena, home)), repr(beats))

    def test_the_empty_arena(self):
        self.tells((), (), ())

    def test_one_position(self):
        for options, beat in (
            ((), None), (((-1,),), None), (((-1, 0),), None), (((0,),), 0), (((-1,), (0,)), 0), (((-1, 0), (-1,)), None),
        ):
            self.tells((options,), (0,), (beat,))
            self.tells((options,), (), (None,))

    def test_rings_with_one_home(self):
        for many in (1, 2, 3, 10, 200):
            for step in (1, many - 1):
                for home in (0, many // 2, many - 1):
                    self.tells(ring(many, step), (home,), (many - 1,) * many)

    def test_rings_with_several_homes(self):
        self.tells(ring(10), (0, 4), (5,) * 10)
        self.tells(ring(10), (0, 5), (4,) * 10)
        self.tells(ring(10), (3, 4, 5), (7,) * 10)
        self.tells(ring(10), tuple(range(1, 10)), (1,) * 10)

    def test_no_home_and_all_home(self):
        arena = (((1,), (0,)), ((2, 3),), ((0,), (3,)), ((0, 1, 2, 3), (-1,)))
        self.tells(arena, (), (None,) * 4)
        self.tells(arena, (0, 1, 2, 3), (0,) * 4)
        arena = (((1,), (0,)), ((2, 3),), ((0,), (3,)), ())
        self.tells(arena, (0, 1, 2, 3), (0, None, 0, None))

    def test_what_is_before_the_first_home_counts(self):
        # A row of positions that leads to a home that it never leaves again.
        row = tuple(((min(at + 1, 5),),) for at in range(6))
        self.tells(row, (5,), (5, 4, 3, 2, 1, 0))
        self.tells(row, (3, 5), (3, 2, 1, 1, 1, 0))
        self.tells(row, (0, 5), (4, 4, 3, 2, 1, 0))
        self.tells(row, (0,), (None,) * 6)

    def test_a_long_row(self):
        row = tuple(((min(at + 1, 199),),) for at in range(200))
        self.tells(row, (199,), tuple(range(199, -1, -1)))
        self.tells(row, (150, 199), tuple(max(48, 150 - at) for at in range(151)) + tuple(range(48, -1, -1)))
        back = tuple(((max(at - 1, 0),),) for at in range(200))
        self.tells(back, (0,), tuple(range(200)))
        both = tuple(((max(at - 1, 0),), (min(at + 1, 199),)) for at in range(200))
        self.tells(both, (100,), tuple(max(1, abs(at - 100)) for at in range(200)))
        self.tells(both, (100, 101), tuple(abs(at - 100) if at < 101 else abs(at - 101) for at in range(200)))
        out = row[:199] + (((-1,),),)
        self.tells(out, tuple(range(200)), (None,) * 200)

    def test_a_home_that_is_better_left(self):
        # From home 0 it takes long to come home, from home 3 it does not.
        arena = (((1,),), ((2,),), ((3,),), ((3,), (0,)))
        self.tells(arena, (0, 3), (2, 2, 1, 0))
        # Home 2 is nearer, but from there the way is longer than the direct one to home 4.
        arena = (((1,), (2,)), ((4,),), ((3,),), ((5,),), ((4,),), ((2,),))
        self.tells(arena, (2, 4), (2, 1, 2, 2, 0, 2))

    def test_a_near_home_with_a_long_ring_and_a_far_one_with_a_short_ring(self):
        # From 4 it is one step to home 0 on a ring of three, and three steps to home 3, which need not be left.
        arena = (((1,),), ((2,),), ((0,),), ((3,),), ((0,), (5,)), ((6,),), ((3,),))
        self.tells(arena, (0, 3), (2, 2, 2, 0, 2, 2, 1))
        # The same with a longer way to home 3, a shorter ring, and without the nearer home.
        arena = (((1,),), ((2,),), ((0,),), ((3,),), ((0,), (5,)), ((6,),), ((7,),), ((3,),))
        self.tells(arena, (0, 3), (2, 2, 2, 0, 2, 3, 2, 1))
        self.tells(arena, (0, 1, 3), (1, 1, 1, 0, 1, 3, 2, 1))
        self.tells(arena, (3,), (None, None, None, 0, 4, 3, 2, 1))

    def test_homes_with_rings_of_their_own(self):
        rows, homes, told = [], [], []
        for many in range(1, 15):
            base = len(rows)
            homes.append(base)
            rows += [[[base + (k + 1) % many]] for k in range(many)]
            told += [many - 1] * many
        self.tells(arena_with(rows), tuple(homes), tuple(told))

    def test_a_home_from_which_there_is_no_other(self):
        # From home 0 the disturbance can lead to a home from which there is no way on.
        arena = (((1, 2),), (), ((2,),), ((0,), (2,)))
        self.tells(arena, (0, 1, 2), (None, None, 0, 1))
        # A position that is not at home and has no options.
        self.tells((((0,), (1,)), ()), (0,), (0, None))
        self.tells((((1,),), ()), (0,), (None, None))

    def test_the_disturbance_takes_the_longer_way(self):
        arena = (((1, 3),), ((0,),), ((0,),), ((2,),))
        self.tells(arena, (0,), (2, 2, 2, 2))
        arena = (((1, 3), (1,)), ((0,),), ((0,),), ((2,),))
        self.tells(arena, (0,), (1, 1, 1, 2))
        arena = (((1, 3), (-1, 1)), ((0,),), ((0,),), ((2,), (0,)))
        self.tells(arena, (0,), (1, 1, 1, 1))

    def test_a_ring_that_the_disturbance_may_go_round(self):
        arena = (((1,),), ((0, 1),), ((0,), (1,)))
        self.tells(arena, (0,), (None, None, None))
        self.tells(arena, (1,), (1, 1, 1))
        self.tells(arena, (0, 1), (0, 0, 1))

    def test_beat_0_only_where_all_is_at_home(self):
        for arena, goal in some_games(44, 300):
            if goal[0] == "stay":
                beats = least_beats(arena, goal[1])
                sides = owners(arena, goal)
                self.assertEqual([beat == 0 for beat in beats], [side == "controller" for side in sides])

    def test_none_exactly_where_the_controller_cannot_come_home_again_and_again(self):
        for arena, goal in some_games(45, 400, 12):
            if goal[0] == "come":
                beats = least_beats(arena, goal[1])
                colours = tuple(2 if at in goal[1] else 1 for at in range(len(arena)))
                sides = owners(arena, ("colours", colours))
                self.assertEqual([beat is not None for beat in beats], [side == "controller" for side in sides])
                self.assertTrue(all(beat is None or 0 <= beat <= len(arena) for beat in beats))

    def test_against_a_search(self):
        counts = {}
        for arena, goal in some_games(46, 700, 6):
            if goal[0] in ("stay", "come"):
                beats = least_beats(arena, goal[1])
                self.assertEqual(beats, searches.least_beats(arena, goal[1]), (arena, goal))
                for beat in beats:
                    counts[beat] = counts.get(beat, 0) + 1
        self.assertTrue({None, 0, 1, 2, 3, 4} <= set(counts))

    def test_rows_with_branches_against_a_search(self):
        chance = random.Random(76)
        for _ in range(500):
            many = chance.randint(4, 10)
            arena = arena_with([
                [[chance.choice((at + 1, at + 1, chance.randrange(many))) % many for _ in range(chance.choice((1, 1, 2)))]
                 for _ in range(chance.choice((1, 1, 2, 3)))]
                for at in range(many)
            ])
            home = tuple(sorted(chance.sample(range(many), chance.randint(1, 4))))
            self.assertEqual(least_beats(arena, home), searches.least_beats(arena, home), (arena, home))

    def test_all_small_arenas(self):
        option = [(-1,), (0,), (1,), (2,), (0, 1), (1, 2), (0, 1, 2)]
        rows = [()] + [(one,) for one in option] + [(one, other) for one, other in itertools.combinations(option[1:], 2)]
        for number, arena in enumerate(itertools.product(rows, repeat=3)):
            if number % 7 == 3:
                home = ((), (0,), (1,), (2,), (0, 1), (0, 2), (1, 2), (0, 1, 2))[number // 7 % 8]
                self.assertEqual(least_beats(arena, home), searches.least_beats(arena, home), (arena, home))

    def test_many_options_and_successors(self):
        whole = tuple(range(200))
        arena = ((whole,) * 60,) * 100 + ((whole[:100], whole[100:]) * 30,) * 100
        forward = tuple((whole[at + 1:] or (0,),) * 60 for at in whole)
        # Without subTest, which would show all of these arenas.
        for here, home, beats in (
            (arena, whole, (0,) * 200),
            (arena, whole[:100], (1,) * 200),
            (arena, whole[100:], (None,) * 100 + (0,) * 100),
            (forward, whole[199:], (199,) * 200),
            (forward, whole[:1], (199,) * 200),
            (forward, whole[::2], (100,) * 200),
        ):
            self.assertEqual(least_beats(here, home), beats)


if __name__ == "__main__":
    unittest.main()
