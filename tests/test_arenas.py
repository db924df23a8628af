"""Points [14], [17]: right arenas and right goals."""

import unittest

from neverleaves.arenas import check_arena, check_goal
from neverleaves.errors import ControlError, InvalidArena, InvalidGoal

HUGE = 10 ** 80

RIGHT_ARENAS = (
    (),
    ((),),
    ((), (), ()),
    (((-1,),),),
    (((0,),),),
    (((-1, 0),),),
    (((-1,), (0,), (-1, 0), (0,), (0,)),),
    (((0,), (1,)), ((0, 1),), ()),
    (((-1, 0, 1, 2), (0, 2), (2,)), (), ((1,),)),
    tuple(((tuple(range(-1, 50))), (k,)) for k in range(50)),
    tuple((((k + 1) % 200,),) * 60 for k in range(200)),
    tuple((tuple(range(200)),) for _ in range(200)),
)

WRONG_OPTIONS = (
    (), (-2,), (-HUGE,), (3,), (4,), (100,), (HUGE,), (0, 0), (-1, -1), (2, 2), (1, 0), (2, 1), (0, -1), (1, -1),
    (0, 2, 1), (1, 0, 2), (0, 1, 1), (0, 0, 1), (-1, 0, 0), (-1, 0, 1, 2, 2), (-2, -1), (-2, 0, 1), (2, 3), (0, 3),
    (-1, 0, 1, 2, 3), (0, HUGE), (-HUGE, 0), (0, -2), (0, 1, -1),
)
RIGHT_OPTIONS = (
    (-1,), (0,), (1,), (2,), (-1, 0), (-1, 2), (0, 1), (0, 2), (1, 2), (-1, 0, 1), (-1, 1, 2), (0, 1, 2), (-1, 0, 1, 2),
)


def places(option):
    """Arenas of three positions with this option at any place."""
    for at in range(3):
        for options in ((option,), (option, (0,)), ((0,), option), ((-1, 2), option, (0, 1, 2))):
            for other in ((), ((1,),)):
                yield tuple(options if k == at else other for k in range(3))


class Arenas(unittest.TestCase):
    def test_right_ones(self):
        for arena in RIGHT_ARENAS:
            with self.subTest(arena=arena):
                self.assertIsNone(check_arena(arena))

    def test_right_options_at_any_place(self):
        for option in RIGHT_OPTIONS:
            for arena in places(option):
                with self.subTest(arena=arena):
                    self.assertIsNone(check_arena(arena))

    def test_wrong_options_at_any_place(self):
        for option in WRONG_OPTIONS:
            for arena in places(option):
                self.bad(arena)

    def bad(self, arena):
        with self.subTest(arena=arena):
            with self.assertRaises(InvalidArena) as caught:
                check_arena(arena)
            self.assertIs(type(caught.exception), InvalidArena)

    def test_the_number_of_positions_counts(self):
        for many in range(1, 6):
            right = (((many - 1,),),) + ((),) * (many - 1)
            self.assertIsNone(check_arena(right))
            self.bad((((many,),),) + ((),) * (many - 1))
            self.bad(((),) * (many - 1) + (((many,),),))

    def test_the_error(self):
        self.assertEqual(InvalidArena.__bases__, (ControlError,))
        self.assertEqual(InvalidGoal.__bases__, (ControlError,))


# Positions with two options, none, one, and three.
ARENA = (((0,), (1, 2)), (), ((-1,),), ((0,), (1,), (2,)))
GAINS = ((1, -2), (), (0,), (7, 8, 9))


class Goals(unittest.TestCase):
    def right(self, goal, arena=ARENA):
        with self.subTest(goal=goal):
            self.assertIsNone(check_goal(arena, goal))

    def bad(self, goal, arena=ARENA):
        with self.subTest(goal=goal):
            with self.assertRaises(InvalidGoal) as caught:
                check_goal(arena, goal)
            self.assertIs(type(caught.exception), InvalidGoal)

    def test_positions(self):
        for kind in ("stay", "come"):
            for told in ((), (0,), (1,), (3,), (0, 1), (0, 3), (2, 3), (0, 1, 2), (1, 2, 3), (0, 1, 2, 3)):
                self.right((kind, told))
            for told in (
                (-1,), (-2,), (-HUGE,), (4,), (5,), (HUGE,), (0, 0), (3, 3), (1, 0), (3, 2), (0, 2, 1), (2, 0, 1),
                (0, 1, 1), (0, 0, 1), (-1, 0), (-1, 0, 1, 2, 3), (0, -1), (3, 4), (0, 1, 2, 3, 4), (0, 4), (-HUGE, 0),
                (0, HUGE), (0, 1, 2, 3, 3),
            ):
                self.bad((kind, told))

    def test_colours(self):
        for told in ((0, 0, 0, 0), (1, 2, 3, 4), (20, 0, 19, 7), (5, 5, 5, 5), (HUGE, 0, 0, HUGE)):
            self.right(("colours", told))
        for told in ((), (0,), (0, 0, 0), (0, 0, 0, 0, 0), (1, 2, 3, 4, 5, 6)):
            self.bad(("colours", told))
        for at in range(4):
            for colour in (-1, -2, -HUGE):
                self.bad(("colours", tuple(colour if k == at else 1 for k in range(4))))

    def test_gains(self):
        for told in (GAINS, ((0, 0), (), (0,), (0, 0, 0)), ((HUGE, -HUGE), (), (HUGE,), (-HUGE, 0, 1))):
            self.right(("tank", told))
        for told in ((), GAINS[:3], GAINS[1:], GAINS + ((),), GAINS + ((1,),)):
            self.bad(("tank", told))
        for at in range(4):
            for row in ((), (5,), (5, 5), (5, 5, 5), (5, 5, 5, 5)):
                told = tuple(row if k == at else GAINS[k] for k in range(4))
                if len(row) == len(ARENA[at]):
                    self.right(("tank", told))
                else:
                    self.bad(("tank", told))

    def test_the_empty_arena(self):
        for kind in ("stay", "come", "colours", "tank"):
            self.right((kind, ()), ())
        for kind in ("stay", "come", "colours"):
            self.bad((kind, (0,)), ())
            self.bad((kind, (-1,)), ())
        self.bad(("tank", ((),)), ())
        self.bad(("tank", ((1,),)), ())

    def test_positions_without_options(self):
        arena = ((), (), ())
        self.right(("tank", ((), (), ())), arena)
        self.bad(("tank", ((), (0,), ())), arena)
        self.right(("colours", (0, 1, 2)), arena)
        self.right(("stay", (0, 1, 2)), arena)
        self.right(("come", (2,)), arena)
        self.bad(("come", (3,)), arena)


if __name__ == "__main__":
    unittest.main()
