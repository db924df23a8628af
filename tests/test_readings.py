"""Points [34] to [37]: known sets, known arenas, and knowing."""

import itertools
import random
import unittest

from neverleaves.arenas import check_arena
from neverleaves.readings import can_know, known_arena
from neverleaves.solving import owners
from tests import searches
from tests.some_arenas import some_games

HUGE = 10 ** 70


def some_known(seed, times, most_positions=6):
    """Arenas, positions to keep, readings and starts."""
    chance = random.Random(seed)
    for arena, goal in some_games(seed, times, most_positions):
        if goal[0] == "stay":
            values = chance.choice(((0,), (0, 1), (3, -5, HUGE), (0, 1, 2, -1), tuple(range(-30, 30))))
            readings = tuple(chance.choice(values) for _ in arena)
            share = chance.choice((0.2, 0.5, 1))
            yield arena, goal[1], readings, tuple(at for at in range(len(arena)) if chance.random() < share)


class KnownArenas(unittest.TestCase):
    def tells(self, arena, readings, starts, known, sets):
        with self.subTest(arena=arena, readings=readings, starts=starts):
            self.assertEqual(repr(known_arena(arena, readings, starts)), repr((known, sets)))
            self.assertIsNone(check_arena(known))

    def test_no_starts(self):
        self.tells((), (), (), (), ())
        self.tells((((0,), (1,)), ()), (0, 0), (), (), ())

    def test_one_start(self):
        arena = (((0, 1), (1,)), ((-1,),))
        self.tells(arena, (0, 0), (0,), (((1,), (2,)), ((-1, 1),), ((-1,),)), ((0,), (0, 1), (1,)))
        self.tells(arena, (0, 1), (0,), (((0, 1), (1,)), ((-1,),)), ((0,), (1,)))
        self.tells(arena, (0, 1), (1,), (((-1,),),), ((1,),))

    def test_starts_parted_by_their_readings(self):
        arena = (((0,),), ((1,),), ((2,),), ((3,),), ((4,),))
        every = (0, 1, 2, 3, 4)
        self.tells(arena, (7, 7, 7, 7, 7), every, (((0,),),), (every,))
        self.tells(arena, (0, 1, 0, 1, 0), every, (((0,),), ((1,),)), ((0, 2, 4), (1, 3)))
        self.tells(arena, (1, 0, 1, 0, 1), every, (((0,),), ((1,),)), ((1, 3), (0, 2, 4)))
        self.tells(arena, (5, -5, HUGE, -HUGE, 5), every, (((0,),), ((1,),), ((2,),), ((3,),)), ((3,), (1,), (0, 4), (2,)))
        self.tells(arena, (4, 3, 2, 1, 0), (1, 3, 4), (((0,),), ((1,),), ((2,),)), ((4,), (3,), (1,)))

    def test_readings_that_are_all_unlike(self):
        # The positions stand in the order in which they are found.
        arena = (((2, 3), (1,)), ((-1, 0),), ((1, 3),), ())
        self.tells(arena, (0, 1, 2, 3), (0,), (((1, 2), (3,)), ((2, 3),), (), ((-1, 0),)), ((0,), (2,), (3,), (1,)))
        self.tells(arena, (3, 2, 1, 0), (0,), (((1, 2), (3,)), (), ((1, 3),), ((-1, 0),)), ((0,), (3,), (2,), (1,)))
        self.tells(arena, (0, 1, 2, 3), (0, 1, 2, 3), arena, ((0,), (1,), (2,), (3,)))

    def test_readings_that_are_all_alike(self):
        arena = (((1, 2),), ((0,),), ((2,),))
        self.tells(arena, (9, 9, 9), (0,), (((1,),), ((2,),), ((1,),)), ((0,), (1, 2), (0, 2)))
        self.tells(arena, (9, 9, 9), (1, 2), (((1,),), ((0,),)), ((1, 2), (0, 2)))

    def test_options_that_every_position_has(self):
        arena = (((0,), (1,), (2,)), ((1,), (0,)), ((2,),), ())
        self.tells(arena, (0, 0, 0, 0), (0, 1), (((0,), (0,)),), ((0, 1),))
        self.tells(arena, (0, 0, 0, 0), (0, 1, 2), (((0,),),), ((0, 1, 2),))
        self.tells(arena, (0, 0, 0, 1), (0, 1, 2, 3), (((0,),), ()), ((0, 1, 2), (3,)))
        self.tells(arena, (0, 0, 0, 0), (0, 1, 2, 3), ((),), ((0, 1, 2, 3),))
        self.tells(arena, (0, 1, 0, 1), (0, 1, 2, 3), (((0,),), ()), ((0, 2), (1, 3)))

    def test_a_play_that_may_be_out(self):
        arena = (((-1,), (-1, 0), (1,)), ((-1,), (1,), (-1, 0, 1)))
        self.tells(arena, (5, 5), (0,), (((-1,), (-1, 0), (1,)), ((-1,), (1,), (-1, 2)), ((-1,), (-1, 2), (-1, 2))),
                   ((0,), (1,), (0, 1)))
        self.tells(arena, (5, 4), (0,), (((-1,), (-1, 0), (1,)), ((-1,), (1,), (-1, 0, 1))), ((0,), (1,)))

    def test_sets_that_follow_are_numbered_by_their_readings_and_stand_in_ascending_order(self):
        # Option 0 finds 3 and 4, with the readings 2 and 1; option 1 finds 1, 2 and 4 again.
        arena = (((3, 4), (1, 2, 4)), ((0,),), ((0,),), ((0,),), ((0,),))
        self.tells(arena, (0, 5, 0, 2, 1), (0,),
                   (((1, 2), (1, 3, 4)), ((0,),), ((0,),), ((0,),), ((0,),)), ((0,), (4,), (3,), (2,), (1,)))
        # A set that was found before comes before new ones, whatever the readings are.
        arena = (((0, 1, 2),), ((1,),), ((2,),))
        self.tells(arena, (9, 1, 5), (0,), (((0, 1, 2),), ((1,),), ((2,),)), ((0,), (1,), (2,)))
        self.tells(arena, (9, 5, 1), (0,), (((0, 1, 2),), ((1,),), ((2,),)), ((0,), (2,), (1,)))

    def test_the_same_positions_found_by_several_options(self):
        arena = (((1,), (2,), (1, 2)), ((1, 2), (1,)), ((2, 3), (2,)), ((3,), (3,)))
        self.tells(arena, (0, 0, 0, 0), (0,), (
            ((1,), (2,), (3,)), ((3,), (1,)), ((4,), (2,)), ((5,), (3,)), ((4,), (4,)), ((5,), (5,)),
        ), ((0,), (1,), (2,), (1, 2), (2, 3), (1, 2, 3)))

    def test_against_the_document(self):
        most = 0
        for arena, _, readings, starts in some_known(66, 1500):
            known, sets = known_arena(arena, readings, starts)
            self.assertEqual((known, sets), searches.known_arena(arena, readings, starts))
            self.assertIsNone(check_arena(known))
            self.assertEqual(len(known), len(sets))
            self.assertEqual(len(set(sets)), len(sets))
            most = max(most, len(sets))
        self.assertGreater(most, 10)

    def test_many_sets(self):
        # A ring of 8 positions that moves a known set on, and one option that lets a position of it be left out.
        arena = tuple((((at + 1) % 8,), ((at + 1) % 8,) if at != 3 else (5,)) for at in range(8))
        found = known_arena(arena, (0,) * 8, tuple(range(8)))
        self.assertEqual(found, searches.known_arena(arena, (0,) * 8, tuple(range(8))))
        self.assertGreater(len(found[0]), 20)

    def test_great_arenas(self):
        whole = tuple(range(200))
        arena = ((whole,) * 60,) * 200
        self.assertEqual(known_arena(arena, (4,) * 200, (17,)), ((((1,),) * 60,) * 2, ((17,), whole)))
        self.assertEqual(known_arena(arena, whole, whole), (arena, tuple((at,) for at in whole)))
        ring = tuple((((at + 1) % 200,),) for at in whole)
        self.assertEqual(known_arena(ring, (0,) * 200, (0, 100)),
                         (tuple((((at + 1) % 100,),) for at in range(100)), tuple((at, at + 100) for at in range(100))))


class Knowing(unittest.TestCase):
    def tells(self, arena, keep, readings, starts, answer):
        with self.subTest(arena=arena, keep=keep, readings=readings, starts=starts):
            self.assertIs(can_know(arena, keep, readings, starts), answer)

    def test_no_starts(self):
        self.tells((), (), (), (), True)
        self.tells(((), ()), (), (0, 0), (), True)
        self.tells((((-1,),),), (0,), (0,), (), True)

    def test_one_position(self):
        for options, answer in (((), False), (((-1,),), False), (((-1, 0),), False), (((0,),), True), (((-1,), (0,)), True)):
            self.tells((options,), (0,), (3,), (0,), answer)
            self.tells((options,), (), (3,), (0,), False)

    def test_what_is_right_depends_on_the_position(self):
        arena = (((1, 2),), ((0,), (3,)), ((3,), (0,)), ())
        keep = (0, 1, 2)
        self.tells(arena, keep, (0, 0, 0, 0), (0,), False)
        self.tells(arena, keep, (0, 1, 1, 0), (0,), False)
        self.tells(arena, keep, (0, 1, 2, 0), (0,), True)
        # The position where the play stands need not be told apart from those where it does not.
        self.tells(arena, keep, (0, 0, 1, 0), (0,), True)
        self.tells(arena, keep, (0, 0, 1, 0), (0, 1), True)
        self.tells(arena, keep, (0, 0, 0, 1), (0, 1), False)
        self.tells(arena, keep, (0, 0, 0, 0), (1,), False)
        self.tells(arena, keep, (0, 0, 0, 0), (1, 2), False)
        self.tells(arena, keep, (0, 1, 2, 0), (1, 2), True)
        self.tells(arena, keep, (0, 1, 2, 3), (0, 1, 2, 3), False)

    def test_what_is_remembered_counts(self):
        # On a ring nothing is to be seen, but it is known where the play is.
        arena = tuple((((at + 1) % 6,), (-1,)) if at % 2 else ((-1,), ((at + 1) % 6,)) for at in range(6))
        keep = tuple(range(6))
        for at in range(6):
            self.tells(arena, keep, (0,) * 6, (at,), True)
        self.tells(arena, keep, (0,) * 6, (0, 2, 4), True)
        self.tells(arena, keep, (0,) * 6, (0, 1), False)
        self.tells(arena, keep, (0, 1) * 3, (0, 1, 3), True)
        self.tells(arena, keep, (0, 0, 0, 1, 1, 1), (0, 3), True)
        self.tells(arena, keep, (0, 0, 0, 1, 1, 1), (0, 1, 3), False)
        self.tells(arena, keep[:5], (0,) * 6, (0,), False)

    def test_every_start_counts(self):
        arena = (((0,),), ((1,),), ((-1,),))
        self.tells(arena, (0, 1), (0, 1, 2), (0, 1), True)
        self.tells(arena, (0,), (0, 1, 2), (0, 1), False)
        self.tells(arena, (1,), (0, 1, 2), (0, 1), False)
        self.tells(arena, (1,), (0, 1, 2), (1,), True)
        self.tells(arena, (0, 1, 2), (0, 1, 2), (0, 1, 2), False)
        self.tells(arena, (0, 1, 2), (1, 2, 0), (0, 1), True)
        self.tells(arena, (0,), (1, 1, 1), (0, 1), False)

    def test_a_stuck_position_in_a_set(self):
        arena = (((1, 2),), ((1,),), ())
        self.tells(arena, (0, 1, 2), (0, 0, 0), (0,), False)
        self.tells(arena, (0, 1, 2), (0, 1, 2), (0,), False)
        self.tells(arena, (0, 1, 2), (0, 1, 2), (1,), True)
        self.tells(arena, (0, 1, 2), (0, 1, 1), (1,), True)

    def test_fewer_options_in_a_set(self):
        # The option that is right at 1 has an index that 2 does not have.
        arena = (((1, 2),), ((-1,), (0,)), ((0,),))
        self.tells(arena, (0, 1, 2), (0, 1, 1), (0,), False)
        self.tells(arena, (0, 1, 2), (0, 1, 2), (0,), True)
        arena = (((1, 2),), ((-1,), (0,)), ((-1,), (0,), (1,)))
        self.tells(arena, (0, 1, 2), (0, 1, 1), (0,), True)

    def test_against_a_search(self):
        answers = {True: 0, False: 0}
        for arena, keep, readings, starts in some_known(67, 1500, 5):
            answer = can_know(arena, keep, readings, starts)
            self.assertIs(answer, searches.knows(arena, keep, readings, starts), (arena, keep, readings, starts))
            answers[answer] += starts != ()
        self.assertGreater(min(answers.values()), 150)

    def test_readings_that_are_all_unlike_say_what_the_owners_say(self):
        for arena, keep, _, starts in some_known(68, 600):
            sides = owners(arena, ("stay", keep))
            answer = all(sides[at] == "controller" for at in starts)
            for readings in (tuple(range(len(arena))), tuple(HUGE - 7 * at for at in range(len(arena)))):
                self.assertIs(can_know(arena, keep, readings, starts), answer)

    def test_finer_readings_never_make_it_worse(self):
        better = 0
        for arena, keep, readings, starts in some_known(69, 2500):
            for share in (2, 3):
                finer = tuple(100 * reading + at % share for at, reading in enumerate(readings))
                coarse = can_know(arena, keep, readings, starts)
                self.assertTrue(can_know(arena, keep, finer, starts) or not coarse)
                better += can_know(arena, keep, finer, starts) and not coarse
        self.assertGreater(better, 10)

    def test_only_how_readings_part_the_positions_counts(self):
        for arena, keep, readings, starts in some_known(70, 300):
            other = tuple(5 - 3 * reading for reading in readings)
            self.assertIs(can_know(arena, keep, readings, starts), can_know(arena, keep, other, starts))

    def test_all_small_arenas(self):
        option = [(-1,), (0,), (1,), (0, 1)]
        rows = [()] + [(one,) for one in option] + list(itertools.permutations(option, 2))
        for arena in itertools.product(rows, repeat=2):
            for keep in ((0,), (0, 1)):
                for readings in ((0, 0), (1, 0)):
                    for starts in ((0,), (1,), (0, 1)):
                        self.assertIs(can_know(arena, keep, readings, starts),
                                      searches.knows(arena, keep, readings, starts))


if __name__ == "__main__":
    unittest.main()
