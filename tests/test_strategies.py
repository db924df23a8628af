"""Points [31], [32], [33], [44], [45]: strategies of an arena, and how they are broken."""

import itertools
import random
import unittest

from neverleaves.solving import told_paper
from neverleaves.strategies import bad_ring, home_steps, least_bad_row, strategy_credit, strategy_of
from tests import oracles
from tests.some_arenas import one_option_arena, some_games

HUGE = 10 ** 80


class StrategiesOfPapers(unittest.TestCase):
    def test_labels_of_each_kind(self):
        for label, item in (
            (("holds", 3), 3), (("holds", 0), 0), (("driven", 0, ()), -1), (("driven", 2, (1, 0)), -1),
            (("driven", 5, (4,)), -1), (("comes", 0, -1), -1), (("comes", 1, 2), 2), (("comes", 7, 0), 0),
            (("away", (1, 2)), -1), (("away", (5,)), -1), (("away", ()), -1), (("even", (), 1), 1), (("even", (0, 3), 0), 0),
            (("odd", (1,), (0,)), -1), (("odd", (1, 2), ()), -1), (("keeps", 0, 2), 2), (("keeps", 5, 0), 0),
            (("drained", 0, (3,)), -1), (("drained", 7, ()), -1),
        ):
            self.assertEqual(repr(strategy_of((label,))), repr((item,)))

    def test_papers_that_need_not_be_right(self):
        self.assertEqual(strategy_of(()), ())
        self.assertEqual(strategy_of((("holds", 7), ("driven", 0, ()), ("holds", -3), ("holds", HUGE))), (7, -1, -3, HUGE))
        self.assertEqual(strategy_of((("comes", 0, 4), ("comes", -1, 4), ("comes", 1, -1))), (-1, 4, -1))
        self.assertEqual(strategy_of((("keeps", 0, 4), ("keeps", -1, 5))), (4, 5))

    def test_told_papers_give_strategies(self):
        for arena, goal in some_games(31, 200):
            paper = told_paper(arena, goal)
            strategy = strategy_of(paper)
            self.assertEqual(len(strategy), len(arena))
            for index, label, options in zip(strategy, paper, arena):
                self.assertTrue(-1 <= index < len(options))
                mine = label[0] in ("holds", "even", "keeps") or (label[0] == "comes" and label[1] > 0)
                self.assertEqual(index != -1, mine)


def some_strategies(seed, times, most_positions=6):
    """Arenas, goals and strategies of the arenas, mostly with a choice where there is one."""
    chance = random.Random(seed)
    for arena, goal in some_games(seed, times, most_positions):
        share = chance.choice((0, 0, 0.2))
        yield arena, goal, tuple(
            -1 if not options or chance.random() < share else chance.randrange(len(options)) for options in arena)


class LeastBadRows(unittest.TestCase):
    def tells(self, arena, keep, strategy, start, row):
        self.assertEqual(repr(least_bad_row(arena, keep, strategy, start)), repr(row))

    def test_the_empty_row(self):
        arena = (((0,), (-1,)), ((1,),), ())
        self.tells(arena, (1, 2), (0, 0, -1), 0, ())
        self.tells(arena, (0, 1, 2), (0, 0, -1), 2, ())
        self.tells(arena, (0, 1, 2), (-1, 0, -1), 0, ())
        self.tells(arena, (), (0, 0, -1), 1, ())

    def test_no_row(self):
        arena = (((0,), (-1,)), ((0, 1),), ())
        self.tells(arena, (0, 1), (0, 0, -1), 0, None)
        self.tells(arena, (0, 1), (0, 0, -1), 1, None)
        self.tells(arena, (0, 1, 2), (0, 0, -1), 1, None)

    def test_out(self):
        arena = (((0,), (-1, 0)), ((0, 1),), ())
        self.tells(arena, (0, 1, 2), (1, 0, -1), 0, (-1,))
        self.tells(arena, (0, 1, 2), (1, 0, -1), 1, (0, -1))
        self.tells(arena, (0, 1, 2), (0, 0, -1), 1, None)

    def test_no_choice_or_not_kept(self):
        arena = (((1, 2),), ((3,),), ((3, 4),), ((0,),), ((4,),))
        keep = (0, 1, 2, 3, 4)
        self.tells(arena, keep, (0, 0, 0, -1, 0), 0, (1, 3))
        self.tells(arena, keep, (0, 0, 0, 0, -1), 0, (2, 4))
        self.tells(arena, (0, 1, 2, 3), (0, 0, 0, 0, 0), 0, (2, 4))
        self.tells(arena, (0, 2, 3, 4), (0, 0, 0, 0, 0), 0, (1,))
        self.tells(arena, (0, 3, 4), (0, 0, 0, 0, 0), 0, (1,))
        self.tells(arena, (1, 2, 3, 4), (0, 0, 0, 0, 0), 2, (3, 0))
        self.tells(arena, keep, (0, 0, 0, 0, 0), 0, None)

    def test_the_shortest_and_then_the_least(self):
        arena = (((1, 2, 3),), ((4,),), ((-1, 5),), ((5,),), ((5,),), ())
        every = (0, 1, 2, 3, 4, 5)
        self.tells(arena, every, (0, 0, 0, 0, 0, -1), 0, (2, -1))
        arena = (((1, 2, 3),), ((4,),), ((5,),), ((-1, 5),), ((5,),), ())
        self.tells(arena, every, (0, 0, 0, 0, 0, -1), 0, (2, 5))
        arena = (((1, 2, 3),), ((4,),), ((4,),), ((-1, 5),), ((5,),), ())
        self.tells(arena, every, (0, 0, 0, 0, 0, -1), 0, (3, -1))
        arena = (((1, 2, 3),), ((4,),), ((4,),), ((4,),), ((-1, 5),), ())
        self.tells(arena, every, (0, 0, 0, 0, 0, -1), 0, (1, 4, -1))

    def test_the_option_of_the_strategy_counts(self):
        arena = (((1,), (0,), (-1,)), ())
        for index, row in ((0, (1,)), (1, None), (2, (-1,))):
            self.tells(arena, (0, 1), (index, -1), 0, row)

    def test_a_long_row(self):
        arena = tuple(((at + 1,),) for at in range(199)) + ((),)
        self.tells(arena, tuple(range(200)), (0,) * 199 + (-1,), 0, tuple(range(1, 200)))

    def test_against_all_rows(self):
        counts = {}
        for arena, goal, strategy in some_strategies(32, 300):
            keep = goal[1] if goal[0] in ("stay", "come") else tuple(range(len(arena)))
            for start in range(len(arena)):
                row = self.search(arena, keep, strategy, start)
                self.tells(arena, keep, strategy, start, row)
                length = None if row is None else min(len(row), 3)
                counts[length] = counts.get(length, 0) + 1
        self.assertEqual(len(counts), 5)
        self.assertGreater(min(counts.values()), 30)

    def search(self, arena, keep, strategy, start):
        """The first bad row among all rows of each length, in ascending order."""
        rows = [()]
        for _ in range(len(arena) + 1):
            ends = [row for row in rows if self.is_bad(arena, keep, strategy, (start,) + row)]
            if ends:
                return min(ends)
            rows = sorted(row + (after,) for row in rows
                          for after in arena[((start,) + row)[-1]][strategy[((start,) + row)[-1]]])
            # Of the rows to one place only the least one is needed.
            rows = list({row[-1]: row for row in reversed(rows)}.values())
        return None

    def is_bad(self, arena, keep, strategy, play):
        return play[-1] == -1 or play[-1] not in keep or strategy[play[-1]] == -1


class HomeSteps(unittest.TestCase):
    def tells(self, arena, home, strategy, start, steps):
        self.assertEqual(repr(home_steps(arena, home, strategy, start)), repr(steps))

    def test_at_home(self):
        for options, index in (((), -1), (((-1,),), 0), (((-1,),), -1), (((0,),), 0)):
            self.tells((options,), (0,), (index,), 0, 0)

    def test_the_greatest_number(self):
        arena = (((1, 2, 4),), ((4,),), ((1, 3),), ((1, 4),), ((-1,),))
        for start, steps in ((0, 4), (1, 1), (2, 3), (3, 2), (4, 0)):
            self.tells(arena, (4,), (0,) * 5, start, steps)
        for start, steps in ((0, 3), (1, 1), (2, 2), (3, 0), (4, 0)):
            self.tells(arena, (3, 4), (0,) * 5, start, steps)

    def test_kept_away(self):
        arena = (((1,), (0, 1), (-1, 1), (2,), (1, 2)), ((1,),), ())
        for index, steps in ((0, 1), (1, None), (2, None), (3, None), (4, None), (-1, None)):
            self.tells(arena, (1,), (index, 0, -1), 0, steps)
        self.tells(arena, (1,), (0, 0, -1), 2, None)
        self.tells(arena, (), (0, 0, -1), 0, None)
        self.tells(arena, (2,), (3, 0, -1), 0, 1)
        self.tells(arena, (1, 2), (4, 0, -1), 0, 1)

    def test_a_later_position_with_no_choice(self):
        arena = (((1, 2),), ((2,),), ((0,),))
        self.tells(arena, (2,), (0, 0, -1), 0, 2)
        self.tells(arena, (2,), (0, -1, 0), 0, None)
        self.tells(arena, (1,), (0, -1, 0), 0, None)

    def test_a_long_way(self):
        arena = tuple(((at + 1,),) for at in range(199)) + ((),)
        self.tells(arena, (199,), (0,) * 199 + (-1,), 0, 199)

    def test_against_all_plays(self):
        counts = {}
        for arena, goal, strategy in some_strategies(33, 300):
            home = goal[1] if goal[0] in ("stay", "come") else (0,)
            for start in range(len(arena)):
                steps = self.longest(arena, home, strategy, (start,))
                self.tells(arena, home, strategy, start, steps)
                counts[steps] = counts.get(steps, 0) + 1
        self.assertGreater(min(counts[steps] for steps in (None, 0, 1, 2)), 30)

    def longest(self, arena, home, strategy, way):
        """The greatest number of steps that follow behind a way, or None if they may never end at home."""
        at = way[-1]
        if at in home:
            return 0
        if at == -1 or strategy[at] == -1 or at in way[:-1]:
            return None
        rest = [self.longest(arena, home, strategy, way + (after,)) for after in arena[at][strategy[at]]]
        return None if None in rest else 1 + max(rest)


class BadRings(unittest.TestCase):
    def check(self, arena, colours, strategy, start):
        """What is returned is a bad ring. The pair is returned."""
        pair = bad_ring(arena, colours, strategy, start)
        if pair is None:
            return None
        self.assertIsInstance(pair, tuple)
        row, ring = pair
        self.assertIsInstance(row, tuple)
        self.assertIsInstance(ring, tuple)
        end = self.walk(arena, strategy, start, row)
        if ring == ():
            self.assertTrue(end == -1 or strategy[end] == -1)
        else:
            self.assertEqual(self.walk(arena, strategy, end, ring), end)
            self.assertEqual(max(colours[at] for at in ring) % 2, 1)
        return pair

    def walk(self, arena, strategy, at, row):
        for after in row:
            self.assertNotEqual(at, -1)
            self.assertNotEqual(strategy[at], -1)
            self.assertIn(after, arena[at][strategy[at]])
            at = after
        return at

    def finds(self, arena, colours, strategy, start, *shapes):
        """One of these is told: "ended" for a row at whose end the play is lost, "ring" or None."""
        pair = self.check(arena, colours, strategy, start)
        shape = None if pair is None else "ended" if pair[1] == () else "ring"
        self.assertIn(shape, shapes)

    def test_the_play_is_lost_at_once(self):
        self.assertEqual(bad_ring(((),), (0,), (-1,), 0), ((), ()))
        self.assertEqual(bad_ring((((0,),),), (0,), (-1,), 0), ((), ()))
        self.assertEqual(bad_ring((((-1,),),), (0,), (0,), 0), ((-1,), ()))

    def test_the_play_is_lost_at_the_end_of_the_row(self):
        arena = (((0, 1),), ((2,), (-1, 1)), ((0,), (3,)), ())
        self.finds(arena, (0, 0, 0, 0), (0, 0, -1, -1), 0, "ended")
        self.finds(arena, (0, 0, 0, 0), (0, 1, 0, -1), 0, "ended")
        self.finds(arena, (0, 0, 0, 0), (0, 0, 1, -1), 0, "ended")
        self.finds(arena, (0, 0, 0, 0), (0, 0, 0, -1), 0, None)
        self.finds(arena, (1, 0, 0, 0), (0, 0, 1, -1), 0, "ended", "ring")

    def test_a_ring_of_one_position(self):
        self.assertEqual(bad_ring((((0,),),), (1,), (0,), 0), ((), (0,)))
        self.assertEqual(bad_ring((((0,),),), (0,), (0,), 0), None)
        self.assertEqual(bad_ring((((0,),),), (2,), (0,), 0), None)
        self.assertEqual(bad_ring((((0,), (1,)), ((1,),)), (3, 7), (0, 0), 0), ((), (0,)))
        self.assertEqual(bad_ring((((0,), (1,)), ((1,),)), (2, 7), (1, 0), 0), ((1,), (1,)))

    def test_the_greatest_colour_counts(self):
        arena = (((1,),), ((2,),), ((0,),))
        for colours in itertools.product(range(4), repeat=3):
            for start in range(3):
                self.finds(arena, colours, (0, 0, 0), start, "ring" if max(colours) % 2 else None)

    def test_greater_even_colours_beside_the_ring(self):
        # From 0 one ring goes by 1 (odd), another one by 2 (even and greater), and both may be mixed.
        arena = (((1, 2),), ((0,),), ((0,),))
        self.finds(arena, (0, 1, 2), (0, 0, 0), 0, "ring")
        self.finds(arena, (0, 1, 2), (0, 0, 0), 2, "ring")
        self.finds(arena, (2, 1, 2), (0, 0, 0), 0, None)
        self.finds(arena, (0, 3, 4), (0, 0, 0), 0, "ring")
        self.finds(arena, (4, 3, 4), (0, 0, 0), 1, None)
        self.finds(arena, (5, 3, 4), (0, 0, 0), 1, "ring")

    def test_a_long_way_round(self):
        many = 200
        arena = tuple((((at + 1) % many,),) for at in range(many))
        colours = [0] * many
        self.finds(arena, tuple(colours), (0,) * many, 50, None)
        colours[40] = 19
        self.finds(arena, tuple(colours), (0,) * many, 50, "ring")
        colours[60] = 20
        self.finds(arena, tuple(colours), (0,) * many, 50, None)
        # A short ring with a greater even colour leads back at each position.
        arena = tuple((tuple(sorted(((at + 1) % 100, 100 + at))),) for at in range(100))
        arena += tuple(((at,),) for at in range(100))
        colours = (1,) + (0,) * 99 + (2,) * 100
        pair = self.check(arena, colours, (0,) * 200, 7)
        self.assertEqual(len(pair[1]), 100)

    def test_a_way_to_the_ring(self):
        arena = tuple(((at, at + 1),) for at in range(9)) + (((9,),),)
        for odd in range(10):
            colours = tuple(7 if at == odd else 8 for at in range(10))
            for start in range(10):
                self.finds(arena, colours, (0,) * 10, start, "ring" if start <= odd else None)

    def test_the_option_of_the_strategy_counts(self):
        arena = (((1,), (0,), (2,)), ((0,),), ((2,),))
        for index, shape in ((0, None), (1, "ring"), (2, None)):
            self.finds(arena, (1, 2, 4), (index, 0, 0), 0, shape)

    def test_against_the_document(self):
        counts = {True: 0, False: 0}
        for arena, goal, strategy in some_strategies(44, 500):
            if goal[0] != "colours":
                continue
            measures = oracles.Measures(one_option_arena(arena, strategy), goal[1], 0).solve()
            for start in range(len(arena)):
                pair = self.check(arena, goal[1], strategy, start)
                self.assertEqual(pair is None, measures[start] is not None)
                counts[pair is None] += 1
        self.assertGreater(min(counts.values()), 300)


class CreditsOfStrategies(unittest.TestCase):
    def tells(self, arena, gains, strategy, start, number):
        self.assertEqual(repr(strategy_credit(arena, gains, strategy, start)), repr(number))

    def test_small_ones(self):
        arena = (((1,), (0,)), ((0, 1),))
        for gains, strategy, first, second in (
            (((0, 0), (0,)), (0, 0), 0, 0),
            (((-3, 0), (3,)), (0, 0), 3, 0),
            (((3, 0), (-3,)), (0, 0), None, None),
            (((-3, 0), (2,)), (0, 0), None, None),
            (((-3, 2), (2,)), (1, 0), 0, 0),
            (((-3, 0), (-1,)), (1, 0), 0, None),
            (((-3, -1), (5,)), (1, 0), None, None),
        ):
            self.tells(arena, gains, strategy, 0, first)
            self.tells(arena, gains, strategy, 1, second)

    def test_rings_around_0(self):
        arena = (((1,),), ((2,),), ((0,),))
        for last, numbers in ((11, (9, 4, 0)), (9, (9, 4, 0)), (8, (None,) * 3), (10, (9, 4, 0))):
            for start in range(3):
                self.tells(arena, ((-5,), (-4,), (last,)), (0, 0, 0), start, numbers[start])

    def test_large_ones(self):
        arena = tuple(((at + 1,),) for at in range(199)) + (((199,),),)
        for loss in (1, 1000, HUGE):
            gains = ((-loss,),) * 199 + ((0,),)
            for start in (0, 1, 100, 198, 199):
                self.tells(arena, gains, (0,) * 200, start, (199 - start) * loss)
        many = 200
        arena = tuple((((at + 1) % many,),) for at in range(many))
        for last, number in ((199 * 1000, 199 * 1000), (199 * 1000 + 1, 199 * 1000), (199 * 1000 - 1, None)):
            self.tells(arena, ((-1000,),) * 199 + ((last,),), (0,) * 200, 0, number)
        back = tuple((((at - 1) % many,),) for at in range(many))
        self.tells(back, ((199 * 1000,),) + ((-1000,),) * 199, (0,) * 200, 199, 199 * 1000)
        self.tells(back, ((199 * 1000 - 1,),) + ((-1000,),) * 199, (0,) * 200, 199, None)

    def test_out_stuck_or_no_choice(self):
        arena = (((1,), (0,)), ((-1, 0),), (), ((2, 3),), ((4,),))
        gains = ((9, 9), (9,), (), (9,), (9,))
        self.tells(arena, gains, (0, 0, -1, 0, 0), 0, None)
        self.tells(arena, gains, (1, 0, -1, 0, 0), 0, 0)
        self.tells(arena, gains, (-1, 0, -1, 0, 0), 0, None)
        self.tells(arena, gains, (1, 0, -1, 0, 0), 1, None)
        self.tells(arena, gains, (1, 0, -1, 0, 0), 2, None)
        self.tells(arena, gains, (1, 0, -1, 0, 0), 3, None)
        self.tells(arena, gains, (1, 0, -1, 0, -1), 4, None)
        self.tells(arena, gains, (1, 0, -1, 0, 0), 4, 0)

    def test_what_the_play_never_meets_does_not_count(self):
        arena = (((0,),), ((-1,),), ((2,),), ())
        self.tells(arena, ((0,), (-9,), (-9,), ()), (0, 0, 0, -1), 0, 0)

    def test_a_loss_may_come_late(self):
        arena = (((0, 1),), ((2,),), ((3,),), ((3,),))
        self.tells(arena, ((5,), (-2,), (-4,), (0,)), (0,) * 4, 0, 1)
        self.tells(arena, ((6,), (-2,), (-4,), (0,)), (0,) * 4, 0, 0)
        self.tells(arena, ((0,), (-2,), (-4,), (0,)), (0,) * 4, 0, 6)
        self.tells(arena, ((0,), (-2,), (-4,), (-1,)), (0,) * 4, 0, None)

    def test_against_the_document(self):
        counts = {"none": 0, "zero": 0, "more": 0}
        for arena, goal, strategy in some_strategies(45, 500):
            if goal[0] != "tank":
                continue
            rest = tuple(() if index == -1 else (row[index],) for row, index in zip(goal[1], strategy))
            numbers = oracles.all_credits(one_option_arena(arena, strategy), rest)
            for start in range(len(arena)):
                self.tells(arena, goal[1], strategy, start, numbers[start])
                counts["none" if numbers[start] is None else "zero" if numbers[start] == 0 else "more"] += 1
        self.assertGreater(min(counts.values()), 50)


class StrategiesOfToldPapers(unittest.TestCase):
    def test_they_keep_the_goals_where_the_controller_owns(self):
        for arena, goal in some_games(46, 200):
            paper = told_paper(arena, goal)
            strategy = strategy_of(paper)
            for start, label in enumerate(paper):
                if label[0] in ("holds", "driven"):
                    row = least_bad_row(arena, goal[1], strategy, start)
                    self.assertEqual(row is None, label[0] == "holds")
                elif label[0] in ("comes", "away"):
                    self.assertEqual(home_steps(arena, goal[1], strategy, start), label[1] if label[0] == "comes" else None)
                elif label[0] in ("even", "odd"):
                    self.assertEqual(bad_ring(arena, goal[1], strategy, start) is None, label[0] == "even")
                else:
                    number = strategy_credit(arena, goal[1], strategy, start)
                    self.assertEqual(number is None, label[0] == "drained")
                    if label[0] == "keeps":
                        self.assertEqual(number, label[1])


if __name__ == "__main__":
    unittest.main()
