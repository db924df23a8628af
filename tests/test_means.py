"""Point [48], with points [24], [29]: the mean of a position."""

import random
import unittest
from fractions import Fraction
from math import gcd

from neverleaves.means import means
from neverleaves.solving import owners
from tests import searches
from tests.some_arenas import some_games


def ring(gains, step=1):
    """The arena and the gains of a ring."""
    many = len(gains)
    return tuple((((at + step) % many,),) for at in range(many)), tuple((gain,) for gain in gains)


def games_with_gains(seed, times, most_positions, most):
    """Pairs of an arena and gains."""
    chance = random.Random(seed)
    for arena, goal in some_games(seed, times, most_positions):
        if goal[0] == "tank":
            yield arena, tuple(tuple(chance.randint(-most, most) for _ in options) for options in arena)


class Means(unittest.TestCase):
    def tells(self, arena, gains, told):
        with self.subTest(arena=arena, gains=gains):
            self.assertEqual(repr(means(arena, gains)), repr(told))

    def test_the_interface(self):
        self.tells((((1,),), ((0,),)), ((3,), (-2,)), ((1, 2), (1, 2)))

    def test_the_empty_arena(self):
        self.tells((), (), ())

    def test_one_position(self):
        for options, gains, mean in (
            ((), (), None),
            (((-1,),), (5,), None),
            (((-1, 0),), (5,), None),
            (((0,),), (5,), (5, 1)),
            (((0,),), (0,), (0, 1)),
            (((0,),), (-7,), (-7, 1)),
            (((0,),), (60,), (60, 1)),
            (((0,),), (-60,), (-60, 1)),
            (((0,), (-1,)), (5, 60), (5, 1)),
            (((-1, 0), (0,), (0,)), (60, -9, -8), (-8, 1)),
            (((0,), (0,), (0,)), (-60, 60, 0), (60, 1)),
        ):
            self.tells((options,), (gains,), (mean,))

    def test_rings(self):
        for gains, mean in (
            ((3, -2), (1, 2)), ((2, -3), (-1, 2)), ((4, -4), (0, 1)), ((0, 0), (0, 1)), ((60, 60), (60, 1)),
            ((-60, -60), (-60, 1)), ((60, -60), (0, 1)), ((60, 59), (119, 2)), ((-60, -59), (-119, 2)), ((5, 7), (6, 1)),
            ((1, 0, 0), (1, 3)), ((0, 0, -1), (-1, 3)), ((1, 1, 0), (2, 3)), ((2, 1, 0), (1, 1)), ((0, -1, 0, -1), (-1, 2)),
        ):
            for step in (1, len(gains) - 1):
                self.tells(*ring(gains, step), (mean,) * len(gains))

    def test_long_rings(self):
        chance = random.Random(51)
        for many in (7, 30, 199, 200):
            for most in (1, 60):
                gains = [chance.randint(-most, most) for _ in range(many)]
                mean = Fraction(sum(gains), many)
                for step in (1, many - 1):
                    self.tells(*ring(gains, step), ((mean.numerator, mean.denominator),) * many)
        # Means that are as near to others as may be.
        for gains, mean in (
            ([1] + [0] * 199, (1, 200)), ([-1] + [0] * 199, (-1, 200)), ([59] + [60] * 199, (11999, 200)),
            ([-59] + [-60] * 199, (-11999, 200)), ([0] * 198 + [1], (1, 199)), ([1] * 99 + [0] * 100, (99, 199)),
            ([60] * 199 + [59], (11999, 200)), ([1] * 101 + [0] * 99, (101, 200)),
        ):
            self.tells(*ring(gains), (mean,) * len(gains))

    def test_two_rings_whose_means_are_next_to_each_other(self):
        # Rings of 100 and 99 positions, both from the same position.
        arena = [[(1,), (100,)]] + [[(at + 1,)] for at in range(1, 99)] + [[(0,)]]
        arena += [[(at + 1,)] for at in range(100, 197)] + [[(0,)]]
        gains = [[0, 0]] + [[0] for _ in range(197)]
        for first, second, mean in ((1, 1, (1, 99)), (2, 1, (1, 50)), (-1, -1, (-1, 100)), (-1, -2, (-1, 100)), (50, 49, (1, 2))):
            gains[0] = [first, second]
            self.tells(tuple(map(tuple, arena)), tuple(map(tuple, gains)), (mean,) * 198)
        # The same choice, but the disturbance has it.
        arena[0] = [(1, 100)]
        for gain, mean in ((1, (1, 100)), (-1, (-1, 99))):
            gains[0] = [gain]
            self.tells(tuple(map(tuple, arena)), tuple(map(tuple, gains)), (mean,) * 198)

    def test_none_without_an_option_that_stays(self):
        arena = (((1,), (2,)), (), ((2,), (-1,)), ((1, 2),), ((0, 2), (1,)))
        self.tells(arena, ((60, 0), (), (4, 60), (60,), (1, 60)), ((4, 1), None, (4, 1), None, (4, 1)))

    def test_the_controller_takes_the_best_ring(self):
        arena = (((0,), (1,), (2,)), ((1,),), ((3,),), ((2,),))
        self.tells(arena, ((1, 50, -60), (2,), (5,), (0,)), ((5, 2), (2, 1), (5, 2), (5, 2)))
        self.tells(arena, ((3, 50, -60), (2,), (5,), (0,)), ((3, 1), (2, 1), (5, 2), (5, 2)))
        self.tells(arena, ((1, 50, -60), (3,), (5,), (0,)), ((3, 1), (3, 1), (5, 2), (5, 2)))
        self.tells(arena, ((-1, 50, -60), (-3,), (-5,), (3,)), ((-1, 1), (-3, 1), (-1, 1), (-1, 1)))

    def test_the_disturbance_takes_the_worst_ring(self):
        arena = (((0, 1, 2),), ((1,),), ((3,),), ((2,),))
        self.tells(arena, ((1,), (2,), (5,), (0,)), ((1, 1), (2, 1), (5, 2), (5, 2)))
        self.tells(arena, ((3,), (2,), (5,), (0,)), ((2, 1), (2, 1), (5, 2), (5, 2)))
        self.tells(arena, ((3,), (4,), (5,), (0,)), ((5, 2), (4, 1), (5, 2), (5, 2)))
        self.tells(arena, ((-3,), (4,), (-60,), (60,)), ((-3, 1), (4, 1), (0, 1), (0, 1)))

    def test_both_choose(self):
        # The disturbance would go to 1, but the controller has a way that goes round it.
        arena = (((0, 1), (0,), (2,)), ((1,),), ((0, 2),))
        self.tells(arena, ((9, 4, 0), (-5,), (6,)), ((4, 1), (-5, 1), (4, 1)))
        self.tells(arena, ((9, 1, 0), (-5,), (6,)), ((3, 1), (-5, 1), (3, 1)))
        self.tells(arena, ((9, 1, -8), (-5,), (6,)), ((1, 1), (-5, 1), (1, 1)))
        self.tells(arena, ((9, 1, 7), (8,), (6,)), ((8, 1), (8, 1), (6, 1)))

    def test_what_is_gained_before_the_ring_does_not_count(self):
        row = tuple(((min(at + 1, 9),),) for at in range(10))
        for last in (-60, -1, 0, 1, 60):
            for others in (-60, 0, 60):
                self.tells(row, ((others,),) * 9 + ((last,),), ((last, 1),) * 10)

    def test_positions_with_many_means(self):
        # Each position may stay or go on, and gains most near the end.
        arena = tuple(((at,), (min(at + 1, 59),)) for at in range(60))
        self.tells(arena, tuple((at, -60) for at in range(60)), ((59, 1),) * 60)
        self.tells(arena, tuple((-at, -60) for at in range(60)), tuple((-at, 1) for at in range(60)))
        arena = tuple(((at, min(at + 1, 59)),) for at in range(60))
        self.tells(arena, tuple((at,) for at in range(60)), tuple((at, 1) for at in range(60)))
        self.tells(arena, tuple((-at,) for at in range(60)), ((-59, 1),) * 60)
        loops = tuple(((at,),) for at in range(200))
        self.tells(loops, tuple((at % 121 - 60,) for at in range(200)), tuple((at % 121 - 60, 1) for at in range(200)))

    def test_the_form_of_the_pairs(self):
        for arena, gains in games_with_gains(52, 200, 10, 60):
            told = means(arena, gains)
            sides = owners(arena, ("stay", tuple(range(len(arena)))))
            self.assertEqual([mean is not None for mean in told], [side == "controller" for side in sides])
            every = [gain for row in gains for gain in row]
            for mean in told:
                if mean is not None:
                    p, q = mean
                    self.assertTrue(1 <= q <= len(arena) and gcd(p, q) == 1)
                    self.assertTrue(q * min(every) <= p <= q * max(every))

    def test_no_greater_fraction(self):
        for arena, gains in games_with_gains(53, 400, 5, 4):
            for at, mean in enumerate(means(arena, gains)):
                if mean is not None:
                    greater = searches.next_fraction(mean, len(arena))
                    self.assertIn(at, searches.tank_owned(arena, gains, *mean))
                    self.assertNotIn(at, searches.tank_owned(arena, gains, *greater))

    def check_by_owners(self, arena, gains):
        told = means(arena, gains)
        for mean in set(told) - {None}:
            for p, q in (mean, searches.next_fraction(mean, len(arena))):
                sides = owners(arena, ("tank", tuple(tuple(q * gain - p for gain in row) for row in gains)))
                for mine, side in zip(told, sides):
                    wanted = mine is not None and Fraction(*mine) >= Fraction(p, q)
                    self.assertEqual(side == "controller", wanted, (mine, p, q))
        return told

    def test_no_greater_fraction_by_the_owners(self):
        for arena, gains in games_with_gains(54, 250, 25, 60):
            self.check_by_owners(arena, gains)

    def test_against_all_strategies(self):
        for arena, gains in games_with_gains(55, 1000, 4, 60):
            self.assertEqual(means(arena, gains), searches.means_by_strategies(arena, gains), (arena, gains))
        for arena, gains in games_with_gains(56, 1000, 5, 2):
            self.assertEqual(means(arena, gains), searches.means_by_strategies(arena, gains), (arena, gains))

    def test_gains_that_go_beyond_60(self):
        self.tells(*ring((1000, -999)), ((1, 2), (1, 2)))
        self.tells(*ring((10 ** 30, 0, 0)), ((10 ** 30, 3),) * 3)

    def test_great_arenas(self):
        chance = random.Random(57)
        whole = tuple(range(200))
        dense = ((whole,) * 60,) * 100 + ((whole[:100], whole[100:]) * 30,) * 100
        sparse = tuple(tuple(tuple(sorted({chance.randrange(200), chance.randrange(200)})) for _ in range(3))
                       for _ in range(200))
        near = tuple(tuple(tuple(sorted({(at + chance.randint(-2, 2)) % 200, at})) for _ in range(4))
                     for at in range(200))
        for arena in (dense, sparse, near):
            gains = tuple(tuple(chance.randint(-60, 60) for _ in options) for options in arena)
            self.assertNotIn(None, self.check_by_owners(arena, gains))


if __name__ == "__main__":
    unittest.main()
