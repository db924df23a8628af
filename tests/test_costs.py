"""Point [47], with points [17], [22], [27]: the least cost home."""

import random
import unittest

from neverleaves.costs import least_costs
from neverleaves.solving import owners, told_paper
from tests import searches
from tests.some_arenas import some_games


def some_costs(chance, arena, most):
    return tuple(tuple(chance.randint(0, most) for _ in options) for options in arena)


def games_with_costs(seed, times, most_positions, most):
    """Triples of an arena, a home and costs."""
    chance = random.Random(seed)
    for arena, goal in some_games(seed, times, most_positions):
        if goal[0] in ("stay", "come"):
            yield arena, goal[1], some_costs(chance, arena, chance.choice((0, 1, most, most)))


class Costs(unittest.TestCase):
    def tells(self, arena, home, costs, told):
        with self.subTest(arena=arena, home=home, costs=costs):
            self.assertEqual(repr(least_costs(arena, home, costs)), repr(told))

    def test_the_empty_arena(self):
        self.tells((), (), (), ())

    def test_0_at_home(self):
        for options in ((), ((-1,),), ((-1, 0),), ((0,),), ((0,), (-1,))):
            costs = ((7,) * len(options),)
            self.tells((options,), (0,), costs, (0,))
            self.tells((options,), (), costs, (None,))

    def test_no_home(self):
        self.tells((((1,), (0,)), ((0, 1),)), (), ((0, 0), (0,)), (None, None))

    def test_a_way_home(self):
        row = tuple(((at + 1,),) for at in range(4)) + (((-1,),),)
        self.tells(row, (4,), ((1,), (20,), (300,), (1000,), (9,)), (1321, 1320, 1300, 1000, 0))
        self.tells(row, (2,), ((1,), (20,), (300,), (1000,), (9,)), (21, 20, 0, None, None))
        self.tells(row, (0, 3), ((1,), (20,), (300,), (1000,), (9,)), (0, 320, 300, 0, None))
        self.tells(row, (4,), ((0,),) * 5, (0, 0, 0, 0, 0))

    def test_the_cost_of_the_option_at_home_does_not_count(self):
        self.tells((((1,),), ((0,),)), (0,), ((1000,), (3,)), (0, 3))

    def test_the_least_option_counts(self):
        arena = (((1,), (2,), (3,)), ((3,),), ((3,),), ((-1,),))
        for costs, told in (
            ((1, 2, 9, 4, 5), (5, 4, 5, 0)),
            ((2, 0, 9, 4, 5), (5, 4, 5, 0)),
            ((3, 3, 6, 4, 5), (6, 4, 5, 0)),
            ((3, 3, 8, 4, 0), (3, 4, 0, 0)),
            ((1000, 1000, 1000, 1000, 1000), (1000, 1000, 1000, 0)),
            ((0, 1, 1000, 1000, 1000), (1000, 1000, 1000, 0)),
        ):
            self.tells(arena, (3,), (costs[:3], costs[3:4], costs[4:], (0,)), told)

    def test_the_most_costly_successor_counts(self):
        arena = (((1, 2, 3),), ((4,),), ((4,),), ((4,),), ((4,),))
        self.tells(arena, (4,), ((2,), (3,), (9,), (5,), (1,)), (11, 3, 9, 5, 0))
        self.tells(arena, (2, 4), ((2,), (3,), (9,), (5,), (1,)), (7, 3, 0, 5, 0))
        # The other option is better, though its cost and its least successor are greater.
        arena = (((1, 2), (1,)), ((3,),), ((3,),), ((3,),))
        self.tells(arena, (3,), ((0, 6), (4,), (11,), (0,)), (10, 4, 11, 0))
        self.tells(arena, (3,), ((0, 8), (4,), (11,), (0,)), (11, 4, 11, 0))

    def test_a_longer_way_that_costs_less(self):
        arena = (((1,), (4,)), ((2,),), ((3,),), ((4,),), ())
        self.tells(arena, (4,), ((1, 5), (1,), (1,), (1,), ()), (4, 3, 2, 1, 0))
        self.tells(arena, (4,), ((1, 3), (1,), (1,), (1,), ()), (3, 3, 2, 1, 0))

    def test_options_with_which_the_play_may_be_out_or_lost(self):
        arena = (((-1, 1), (2,), (1, 3), (1,)), (), ((1,),), ((3,),))
        self.tells(arena, (1,), ((0, 5, 0, 9), (), (3,), (0,)), (8, 0, 3, None))
        self.tells(arena, (1,), ((0, 5, 0, 7), (), (3,), (0,)), (7, 0, 3, None))
        self.tells((((-1, 1), (-1,)), ()), (1,), ((0, 0), ()), (None, 0))

    def test_rings_that_cost_nothing(self):
        # Nothing is paid on the ring, but it does not come home.
        arena = (((1,), (2,)), ((0,),), ())
        self.tells(arena, (2,), ((0, 7), (0,), ()), (7, 7, 0))
        self.tells(arena[:1] + (((0,), (1,)), ()), (2,), ((0, 7), (0, 0), ()), (7, 7, 0))
        self.tells((((1,), (0,)), ((0,), (1,)), ()), (2,), ((0, 0), (0, 0), ()), (None, None, 0))
        self.tells((((0,), (1,)), ()), (1,), ((0, 1000), ()), (1000, 0))
        self.tells((((0, 1), (1,)), ()), (1,), ((0, 9), ()), (9, 0))
        self.tells((((0, 1),), ()), (1,), ((0,), ()), (None, 0))
        # On the ring of 0, 1 and 2 each position may wait for the others to come home.
        arena = (((1,), (3,)), ((2,), (3,)), ((0,), (3,)), ())
        self.tells(arena, (3,), ((0, 30), (0, 20), (0, 10), ()), (10, 10, 10, 0))
        self.tells(arena, (3,), ((0, 30), (0, 10), (0, 20), ()), (10, 10, 10, 0))
        self.tells(arena, (3,), ((1, 30), (1, 10), (1, 20), ()), (11, 10, 12, 0))

    def test_options_with_the_same_successor_as_the_position(self):
        arena = (((0,), (0, 1), (1,)), ((0,), (1, 2), (2,)), ())
        self.tells(arena, (2,), ((0, 0, 1), (0, 0, 2), ()), (3, 2, 0))

    def test_great_sums(self):
        row = tuple(((at + 1,),) for at in range(199)) + ((),)
        self.tells(row, (199,), ((1000,),) * 199 + ((),), tuple(1000 * (199 - at) for at in range(200)))
        back = ((),) + tuple(((at - 1,),) for at in range(1, 200))
        self.tells(back, (0,), ((),) + ((1000,),) * 199, tuple(1000 * at for at in range(200)))

    def test_many_options_and_successors(self):
        whole = tuple(range(200))
        forward = tuple((whole[at + 1:],) * 60 for at in range(199)) + (((0,),) * 60,)
        costs = (tuple(range(60, 0, -1)),) * 200
        # Without subTest, which would show all of these arenas.
        self.assertEqual(least_costs(forward, (199,), costs), tuple(199 - at for at in whole))
        every_other = tuple(0 if at % 2 == 0 else 1 + (199 - at) // 2 for at in whole)
        self.assertEqual(least_costs(forward, whole[::2], (costs[0],) * 200), every_other)
        self.assertEqual(least_costs(forward, (), costs), (None,) * 200)

    def test_none_exactly_where_the_disturbance_owns_the_position(self):
        for arena, home, costs in games_with_costs(47, 400, 12, 1000):
            told = least_costs(arena, home, costs)
            sides = owners(arena, ("come", home))
            self.assertEqual([cost is None for cost in told], [side == "disturbance" for side in sides])

    def test_with_costs_of_1_it_is_the_rank_of_the_told_paper(self):
        for arena, goal in some_games(48, 400, 12):
            if goal[0] == "come":
                told = least_costs(arena, goal[1], tuple((1,) * len(options) for options in arena))
                ranks = [label[1] if label[0] == "comes" else None for label in told_paper(arena, goal)]
                self.assertEqual(list(told), ranks)

    def test_against_a_search(self):
        found = 0
        for arena, home, costs in games_with_costs(49, 800, 5, 3):
            told = least_costs(arena, home, costs)
            self.assertEqual(told, searches.least_costs(arena, home, costs, 16), (arena, home, costs))
            found += sum(1 for cost in told if cost)
        self.assertGreater(found, 150)

    def test_greater_costs_against_rounds(self):
        for arena, home, costs in games_with_costs(50, 500, 15, 1000):
            self.assertEqual(least_costs(arena, home, costs), searches.costs_in_rounds(arena, home, costs))


if __name__ == "__main__":
    unittest.main()
