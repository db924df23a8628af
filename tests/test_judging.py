"""Points [20] to [24], [30]: right labels and right papers, and what the judge says of them."""

import random
import unittest

from neverleaves.judging import judge
from neverleaves.solving import told_paper
from tests import oracles
from tests.some_arenas import EMPTY_GOALS, some_games

HUGE = 10 ** 80


class Judged(unittest.TestCase):
    def says(self, wanted, arena, goal, paper):
        with self.subTest(goal=goal, paper=paper):
            self.assertIs(judge(arena, goal, paper), wanted)

    def right(self, paper, **labels):
        self.says(True, self.arena, self.goal, self.changed(paper, labels))

    def wrong(self, paper, **labels):
        self.says(False, self.arena, self.goal, self.changed(paper, labels))

    def changed(self, paper, labels):
        """The paper with other labels: at0=.. is the one of position 0."""
        return tuple(labels.get(f"at{at}", label) for at, label in enumerate(paper))


class Lengths(Judged):
    def test_the_empty_arena(self):
        for goal, label in zip(EMPTY_GOALS, (("holds", 0), ("comes", 0, -1), ("even", (), 0), ("keeps", 0, 0))):
            self.says(True, (), goal, ())
            self.says(False, (), goal, (label,))

    def test_too_short_too_long_or_empty(self):
        arena = (((0,), (1,)), ((1,),), ())
        for goal in (("stay", (0, 1)), ("come", (1,)), ("colours", (0, 1, 2)), ("tank", ((0, 1), (-1,), ()))):
            paper = told_paper(arena, goal)
            self.says(True, arena, goal, paper)
            self.says(False, arena, goal, ())
            self.says(False, arena, goal, paper[:1])
            self.says(False, arena, goal, paper[:2])
            self.says(False, arena, goal, paper + paper[:1])
            self.says(False, arena, goal, paper + paper[2:])
            self.says(False, arena, goal, paper + paper)


class Staying(Judged):
    # 0 and 1 can be held; 2 is driven to 4 or out; 3 is driven to 2; 4 is not in keep; 5 is stuck.
    arena = (((0, 1), (1,), (0, 2)), ((-1, 0), (0,)), ((-1, 0), (0, 4)), ((0, 2), (2, 5)), ((0,), (0, 1)), ())
    goal = ("stay", (0, 1, 2, 3, 5))
    paper = (
        ("holds", 0), ("holds", 1), ("driven", 1, (-1, 4)), ("driven", 2, (2, 5)), ("driven", 0, ()), ("driven", 1, ()),
    )

    def test_right_ones(self):
        self.right(self.paper)
        self.right(self.paper, at0=("holds", 1))
        self.right(self.paper, at2=("driven", 2, (-1, 4)), at3=("driven", 3, (2, 2)))
        self.right(self.paper, at3=("driven", HUGE, (2, 5)))
        self.right(self.paper, at5=("driven", HUGE, ()), at3=("driven", 2, (2, 2)))

    def test_options_that_are_no_indexes(self):
        for index in (3, 4, -1, -2, -3, HUGE, -HUGE):
            self.wrong(self.paper, at0=("holds", index))
        for index in (2, -1, -2, HUGE, -HUGE):
            self.wrong(self.paper, at1=("holds", index))
        for index in (0, -1, 1):
            self.says(False, ((),), ("stay", (0,)), (("holds", index),))

    def test_holds_where_a_successor_is_out_or_driven(self):
        self.wrong(self.paper, at0=("holds", 2))
        self.wrong(self.paper, at1=("holds", 0))
        self.wrong(self.paper, at3=("holds", 0))
        self.says(False, (((-1,),),), ("stay", (0,)), (("holds", 0),))

    def test_holds_where_the_position_is_not_kept(self):
        self.wrong(self.paper, at4=("holds", 0))
        self.wrong(self.paper, at4=("holds", 0), at2=("holds", 1))
        self.says(False, (((0,),),), ("stay", ()), (("holds", 0),))
        self.says(True, (((0,),),), ("stay", (0,)), (("holds", 0),))

    def test_ranks_that_are_too_small(self):
        for rank in (0, -1, -2, -HUGE):
            self.wrong(self.paper, at2=("driven", rank, (-1, 4)))
            self.wrong(self.paper, at3=("driven", rank, (2, 5)))
            self.wrong(self.paper, at5=("driven", rank, ()))
            self.says(False, (((-1,),),), ("stay", (0,)), (("driven", rank, (-1,)),))
        self.wrong(self.paper, at3=("driven", 1, (2, 5)))
        self.wrong(self.paper, at2=("driven", 2, (-1, 4)))
        self.wrong(self.paper, at5=("driven", 2, ()))
        self.says(True, (((-1,),),), ("stay", (0,)), (("driven", 1, (-1,)),))

    def test_a_ring_of_driven_positions(self):
        arena, goal = (((1,),), ((0,),)), ("stay", (0, 1))
        for ranks in ((1, 1), (1, 2), (2, 1), (HUGE, HUGE)):
            self.says(False, arena, goal, (("driven", ranks[0], (1,)), ("driven", ranks[1], (0,))))
        self.says(False, (((0,),),), ("stay", (0,)), (("driven", 1, (0,)),))

    def test_driven_where_the_position_is_not_kept(self):
        for label in (("driven", 1, ()), ("driven", -1, ()), ("driven", HUGE, ()), ("driven", 0, (0, 0)),
                      ("driven", 0, (0,)), ("driven", 1, (0, 0))):
            self.wrong(self.paper, at4=label)
        self.wrong(self.paper, at4=("driven", 1, ()), at2=("driven", 2, (-1, 4)), at3=("driven", 3, (2, 5)))
        for options in ((), ((0,),), ((-1,),)):
            self.says(True, (options,), ("stay", ()), (("driven", 0, ()),))

    def test_replies(self):
        for replies in (
            (), (-1,), (-1, 4, 4), (-1, 4, -1), (4, 4), (-1, -1), (0, 4), (-1, 0), (1, 4), (-1, 5), (-2, 4), (6, 4),
            (HUGE, 4), (-1, -HUGE), (4, -1),
        ):
            self.wrong(self.paper, at2=("driven", 1, replies))
        for replies in ((2,), (2, 5, 5), (2, 2, 2), (5, 2), (5, 5), (0, 5), (2, -1), (2, 4), (-1, 5), ()):
            self.wrong(self.paper, at3=("driven", 2, replies))
        self.wrong(self.paper, at5=("driven", 1, (0,)))
        self.wrong(self.paper, at5=("driven", 1, (-1,)))


class Coming(Judged):
    # 0 is home; 1 and 2 come; 3 and 4 stay away; 5 is stuck; 6 is home and stuck.
    arena = (((3,), (-1,)), ((0,), (0, 6)), ((1, 3), (0, 1)), ((3, 4), (0, 5)), ((-1, 0), (0, 3)), (), ())
    goal = ("come", (0, 6))
    paper = (
        ("comes", 0, -1), ("comes", 1, 0), ("comes", 2, 1), ("away", (3, 5)), ("away", (-1, 3)), ("away", ()),
        ("comes", 0, -1),
    )

    def test_right_ones(self):
        self.right(self.paper)
        self.right(self.paper, at1=("comes", 1, 1))
        self.right(self.paper, at1=("comes", 2, 1), at2=("comes", 3, 1))
        self.right(self.paper, at2=("comes", HUGE, 1))
        self.right(self.paper, at3=("away", (4, 5)))

    def test_home(self):
        for at in ("at0", "at6"):
            for label in (("comes", 0, 0), ("comes", 0, 1), ("comes", 0, -2), ("comes", 1, -1), ("comes", -1, -1),
                          ("comes", 1, 0), ("comes", 0, HUGE), ("comes", HUGE, -1), ("away", ()), ("away", (3, -1)),
                          ("away", (-1,))):
                self.wrong(self.paper, **{at: label})
        self.says(False, (((-1,),),), ("come", (0,)), (("away", (-1,)),))
        self.says(True, (((-1,),),), ("come", (0,)), (("comes", 0, -1),))
        self.says(True, ((),), ("come", (0,)), (("comes", 0, -1),))

    def test_elsewhere_rank_0_and_no_option_are_wrong(self):
        for label in (("comes", 0, -1), ("comes", 0, 0), ("comes", 1, -1), ("comes", HUGE, -1)):
            self.wrong(self.paper, at1=label)
            self.wrong(self.paper, at5=label)

    def test_options_that_are_no_indexes(self):
        for index in (2, 3, -1, -2, -3, HUGE, -HUGE):
            self.wrong(self.paper, at1=("comes", 1, index))
            self.wrong(self.paper, at2=("comes", 2, index))

    def test_ranks_that_are_too_small(self):
        for rank in (0, -1, -HUGE):
            self.wrong(self.paper, at1=("comes", rank, 0))
        for rank in (1, 0, -1, -HUGE):
            self.wrong(self.paper, at2=("comes", rank, 1))
        self.wrong(self.paper, at1=("comes", 2, 0))
        self.wrong(self.paper, at1=("comes", HUGE, 0))

    def test_a_ring_of_coming_positions(self):
        arena, goal = (((1,),), ((0,),)), ("come", ())
        for ranks in ((1, 1), (1, 2), (2, 1), (0, 0)):
            self.says(False, arena, goal, (("comes", ranks[0], 0), ("comes", ranks[1], 0)))
        self.says(False, (((0,),),), ("come", ()), (("comes", 1, 0),))

    def test_successors_that_are_out_or_away(self):
        self.wrong(self.paper, at2=("comes", 2, 0))
        self.wrong(self.paper, at2=("comes", HUGE, 0))
        self.wrong(self.paper, at4=("comes", 1, 0))
        self.wrong(self.paper, at3=("comes", 1, 1))
        self.says(False, (((-1,),),), ("come", ()), (("comes", 1, 0),))

    def test_replies(self):
        for replies in ((), (3,), (3, 5, 5), (3, 0), (3, 4), (0, 5), (5, 3), (-1, 5), (3, -1), (3, -2), (7, 5), (HUGE, 5)):
            self.wrong(self.paper, at3=("away", replies))
        for replies in ((), (-1,), (-1, 3, 3), (0, 3), (-1, 0), (-1, -1), (3, 3), (3, -1), (-1, 4)):
            self.wrong(self.paper, at4=("away", replies))
        self.wrong(self.paper, at5=("away", (-1,)))
        self.wrong(self.paper, at5=("away", (5,)))


class EvenColours(Judged):
    # Colours up to 5, so the measures have entries for 5, 3 and 1.
    arena = (((1,),), ((2,),), ((3,), (0, -1)), ((4,),), ((0,),))
    goal = ("colours", (1, 3, 0, 2, 5))

    def paper_of(self, *measures):
        return tuple(("even", measure, 0) for measure in measures)

    def test_a_ring_with_an_odd_greatest_colour_has_no_right_paper(self):
        for a in range(3):
            for b in range(3):
                self.wrong(self.paper_of((a, b, 0), (a, b, 0), (a, 0, 0), (a, 0, 0), (a + b, 0, 0)))

    def check_pair(self, colours, mine, other, wanted):
        """At position 0 stands `mine`, at its successor 1 `other`, which stands alone."""
        arena = (((1,),), ((1,),))
        # The greatest colour is that of a third position.
        arena, goal = arena + (((1,),),), ("colours", colours)
        greatest = (HUGE,) * len(mine)
        self.says(wanted, arena, goal, (("even", mine, 0), ("even", other, 0), ("even", greatest, 0)))

    def test_heads(self):
        for colour, mine, other, wanted in (
            # Colour 4 of 5: only the entry for 5 counts, and may be equal.
            (4, (1, 0, 0), (1, 9, 9), True),
            (4, (1, 0, 0), (0, 9, 9), True),
            (4, (1, 9, 9), (2, 0, 0), False),
            # Colour 5: it has to be greater.
            (5, (1, 0, 0), (1, 0, 0), False),
            (5, (1, 9, 9), (1, 0, 0), False),
            (5, (2, 0, 0), (1, 9, 9), True),
            (5, (1, 0, 0), (2, 0, 0), False),
            # Colour 3: the entries for 5 and 3.
            (3, (1, 2, 0), (1, 2, 0), False),
            (3, (1, 2, 9), (1, 2, 0), False),
            (3, (1, 3, 0), (1, 2, 9), True),
            (3, (2, 0, 0), (1, 9, 9), True),
            (3, (1, 9, 9), (2, 0, 0), False),
            # Colour 2: they may be equal.
            (2, (1, 2, 0), (1, 2, 9), True),
            (2, (1, 1, 9), (1, 2, 0), False),
            (2, (2, 0, 0), (1, 9, 9), True),
            # Colour 1: all entries.
            (1, (1, 2, 3), (1, 2, 3), False),
            (1, (1, 2, 4), (1, 2, 3), True),
            (1, (1, 2, 2), (1, 2, 3), False),
            (1, (1, 3, 0), (1, 2, 9), True),
            # Colour 0: all entries, and they may be equal.
            (0, (1, 2, 3), (1, 2, 3), True),
            (0, (1, 2, 2), (1, 2, 3), False),
            (0, (0, 9, 9), (1, 0, 0), False),
        ):
            self.check_pair((colour, 0, 5), mine, other, wanted)

    def test_greatest_colours(self):
        for greatest, many in ((0, 0), (1, 1), (2, 1), (3, 2), (4, 2), (5, 3), (20, 10)):
            arena, goal = (((1,),), ((1,),)), ("colours", (greatest, 0))
            mine, other = ("even", (2,) * many, 0), ("even", (1,) * many, 0)
            self.says(True, arena, goal, (mine, other))
            for length in {0, many - 1, many + 1, 40} - {-1, many}:
                self.says(False, arena, goal, (("even", (2,) * length, 0), other))
                self.says(False, arena, goal, (mine, ("even", (1,) * length, 0)))

    def test_negative_entries(self):
        arena, goal = (((0,),), ((0,),)), ("colours", (4, 0))
        for measure in ((-1, 0), (0, -1), (-1, -1), (0, -HUGE), (5, -1)):
            self.says(False, arena, goal, (("even", measure, 0), ("even", (9, 9), 0)))
        self.says(True, arena, goal, (("even", (0, 0), 0), ("even", (9, 9), 0)))
        self.says(True, arena, goal, (("even", (HUGE, HUGE), 0), ("even", (HUGE, HUGE), 0)))

    def test_entries_may_be_more_than_positions(self):
        self.says(True, (((1,),), ((1,),)), ("colours", (1, 0)), (("even", (HUGE,), 0), ("even", (7,), 0)))

    def test_options_and_successors(self):
        arena = (((0,), (0, 1), (-1, 0), (0, 2), (2,)), ((0,),), ((-1,),))
        goal = ("colours", (2, 1, 0))
        paper = (("even", (0,), 0), ("even", (1,), 0), ("odd", (0, 0), (-1,)))
        for index, wanted in ((0, True), (1, True), (2, False), (3, False), (4, False), (5, False), (-1, False),
                              (-5, False), (HUGE, False), (-HUGE, False)):
            self.says(wanted, arena, goal, (("even", (0,), index),) + paper[1:])
        self.says(False, arena, goal, paper[:2] + (("even", (9,), 0),))
        self.says(False, ((),), ("colours", (0,)), (("even", (), 0),))
        self.says(False, ((),), ("colours", (0,)), (("even", (), -1),))

    def test_each_successor_counts(self):
        arena, goal = (((1, 2),), ((1,),), ((2,),)), ("colours", (1, 0, 0))
        for first, second, wanted in ((0, 0, True), (1, 0, True), (0, 1, True), (2, 0, False), (0, 2, False)):
            self.says(wanted, arena, goal, (("even", (2,), 0), ("even", (first,), 0), ("even", (second,), 0)))


class OddColours(Judged):
    def check_pair(self, colours, mine, other, wanted):
        arena, goal = (((1,),), ((1,),), ((1,),)), ("colours", colours)
        greatest = (HUGE,) * len(mine)
        self.says(wanted, arena, goal, (("odd", mine, (1,)), ("odd", other, (1,)), ("odd", greatest, (1,))))

    def test_heads(self):
        for colour, mine, other, wanted in (
            # Of colours up to 4, the measures have entries for 4, 2 and 0.
            (4, (1, 9, 9), (1, 0, 0), False),
            (4, (2, 0, 0), (1, 9, 9), True),
            (4, (1, 0, 0), (2, 0, 0), False),
            (3, (1, 0, 0), (1, 9, 9), True),
            (3, (0, 9, 9), (1, 0, 0), False),
            (3, (2, 0, 0), (1, 9, 9), True),
            (2, (1, 2, 9), (1, 2, 0), False),
            (2, (1, 3, 0), (1, 2, 9), True),
            (2, (2, 0, 0), (1, 9, 9), True),
            (2, (1, 1, 9), (1, 2, 0), False),
            (1, (1, 2, 0), (1, 2, 9), True),
            (1, (1, 1, 9), (1, 2, 0), False),
            (0, (1, 2, 3), (1, 2, 3), False),
            (0, (1, 2, 4), (1, 2, 3), True),
            (0, (1, 2, 2), (1, 2, 3), False),
            (0, (1, 3, 0), (1, 2, 9), True),
        ):
            self.check_pair((colour, 1, 4), mine, other, wanted)

    def test_greatest_colours(self):
        for greatest, many in ((0, 1), (1, 1), (2, 2), (3, 2), (4, 3), (5, 3), (20, 11)):
            arena, goal = (((-1,),), ((0,),)), ("colours", (greatest, 0))
            mine = (1,) * many
            for measure, wanted in ((mine, True), (mine + (0,), False), (mine[1:], False), ((), False)):
                self.says(wanted, arena, goal, (("odd", measure, (-1,)), ("odd", (2,) * many, (0,))))

    def test_negative_entries(self):
        arena, goal = (((-1,),), ((0,),)), ("colours", (3, 0))
        for measure in ((-1, 0), (0, -1), (-1, -1), (0, -HUGE), (5, -1)):
            self.says(False, arena, goal, (("odd", measure, (-1,)), ("odd", (9, 9), (0,))))
        self.says(True, arena, goal, (("odd", (0, 0), (-1,)), ("odd", (9, 9), (0,))))

    def test_being_out_needs_no_measure(self):
        for colour in (0, 1, 2, 3):
            zeros = (0,) * (colour // 2 + 1)
            self.says(True, (((-1,),),), ("colours", (colour,)), (("odd", zeros, (-1,)),))
            self.says(True, ((),), ("colours", (colour,)), (("odd", zeros, ()),))
            self.says(True, (((-1, 0), (-1,)),), ("colours", (colour,)), (("odd", zeros, (-1, -1)),))
        self.says(False, (((0,),),), ("colours", (2,)), (("odd", (5, 5), (0,)),))
        self.says(True, (((0,),),), ("colours", (1,)), (("odd", (5,), (0,)),))

    def test_replies(self):
        arena = (((1, 2), (-1, 2)), ((0,),), ((2,),))
        goal = ("colours", (1, 1, 0))
        paper = (("odd", (0,), (1, -1)), ("odd", (0,), (0,)), ("even", (0,), 0))
        self.says(True, arena, goal, paper)
        for replies in ((), (1,), (1, -1, -1), (2, -1), (1, 2), (1, 1), (-1, -1), (0, -1), (1, 0), (3, -1), (-2, -1),
                        (HUGE, -1), (1, -HUGE), (-1, 1)):
            self.says(False, arena, goal, (("odd", (0,), replies),) + paper[1:])
        self.says(False, ((),), ("colours", (1,)), (("odd", (0,), (-1,)),))

    def test_each_reply_counts(self):
        arena, goal = (((1,), (2,)), ((-1,),), ((-1,),)), ("colours", (0, 1, 1))
        for first, second, wanted in ((0, 0, True), (1, 0, True), (0, 1, True), (2, 0, False), (0, 2, False)):
            labels = (("odd", (2,), (1, 2)), ("odd", (first,), (-1,)), ("odd", (second,), (-1,)))
            self.says(wanted, arena, goal, labels)


class Tanks(Judged):
    # 0 loses 3 to 1, which gains 3; 2 loses 1 to 3, which gains 0; 4 is stuck; 5 may be out.
    arena = (((1,), (2,)), ((0,), (-1, 0)), ((3, 0),), ((2, 4),), (), ((-1, 0), (4, 1)))
    goal = ("tank", ((-3, 9), (3, 9), (-1,), (0,), (), (9, -9)))
    # With six positions, the load of 2 is at least 6 * -1 + 1 = -5 more than that of 3, and that of 3 is 1 more.
    paper = (
        ("keeps", 3, 0), ("keeps", 0, 0), ("drained", 0, (3,)), ("drained", 1, (2,)), ("drained", 0, ()),
        ("drained", 0, (-1, 4)),
    )

    def test_right_ones(self):
        self.right(self.paper)
        self.right(self.paper, at0=("keeps", 4, 0), at1=("keeps", 1, 0))
        self.right(self.paper, at0=("keeps", 3, 0), at1=("keeps", 0, 0))
        self.right(self.paper, at0=("keeps", HUGE + 3, 0), at1=("keeps", HUGE, 0))
        self.right(self.paper, at3=("drained", 5, (2,)))
        self.right(self.paper, at3=("drained", 5, (4,)))
        self.right(self.paper, at3=("drained", 1, (4,)))
        self.right(self.paper, at5=("drained", HUGE, (-1, 4)))
        self.right(self.paper, at4=("drained", 53, ()), at3=("drained", 1, (2,)))

    def test_credits_that_are_too_small(self):
        for credit in (2, 1, 0, -1, -HUGE):
            self.wrong(self.paper, at0=("keeps", credit, 0))
        for credit in (-1, -2, -HUGE):
            self.wrong(self.paper, at1=("keeps", credit, 0))
        self.wrong(self.paper, at1=("keeps", 1, 0))
        self.wrong(self.paper, at0=("keeps", 4, 0))
        self.says(False, (((0,),),), ("tank", ((5,),)), (("keeps", -1, 0),))
        self.says(True, (((0,),),), ("tank", ((0,),)), (("keeps", 0, 0),))
        self.says(False, (((0,),),), ("tank", ((-1,),)), (("keeps", HUGE, 0),))

    def test_options_that_are_no_indexes(self):
        for index in (2, 3, -1, -2, HUGE, -HUGE):
            self.wrong(self.paper, at0=("keeps", 3, index))
            self.wrong(self.paper, at1=("keeps", 0, index))
        for index in (0, -1):
            self.wrong(self.paper, at4=("keeps", 9, index))

    def test_successors_that_are_out_or_drained(self):
        self.wrong(self.paper, at0=("keeps", 3, 1))
        self.wrong(self.paper, at1=("keeps", 0, 1))
        self.wrong(self.paper, at1=("keeps", HUGE, 1))
        self.wrong(self.paper, at5=("keeps", HUGE, 0))
        self.says(False, (((-1,),),), ("tank", ((9,),)), (("keeps", 9, 0),))

    def test_the_gain_of_the_option_that_is_picked_counts(self):
        arena, goal = (((0,), (0,), (0,)),), ("tank", ((-1, 0, 1),))
        for index, wanted in ((0, False), (1, True), (2, True)):
            self.says(wanted, arena, goal, (("keeps", 0, index),))
        arena, goal = (((1,), (1,)), ((1,),)), ("tank", ((-2, -5), (0,)))
        for credit, index, wanted in ((2, 0, True), (1, 0, False), (2, 1, False), (4, 1, False), (5, 1, True)):
            self.says(wanted, arena, goal, (("keeps", credit, index), ("keeps", 0, 0)))

    def test_each_successor_counts(self):
        arena, goal = (((1, 2),), ((1,),), ((2,),)), ("tank", ((1,), (0,), (0,)))
        for first, second, wanted in ((0, 0, True), (3, 3, True), (4, 0, False), (0, 4, False)):
            self.says(wanted, arena, goal, (("keeps", 2, 0), ("keeps", first, 0), ("keeps", second, 0)))

    def test_loads_that_are_too_small(self):
        for load in (0, -1, -HUGE):
            self.wrong(self.paper, at3=("drained", load, (2,)))
            self.wrong(self.paper, at3=("drained", load, (4,)))
        for load in (-1, -2, -HUGE):
            self.wrong(self.paper, at2=("drained", load, (3,)))
            self.wrong(self.paper, at4=("drained", load, ()))
            self.wrong(self.paper, at5=("drained", load, (-1, 4)))

    def test_loads_and_gains(self):
        # With two positions, a gain of g takes 2 * g + 1.
        for gain, load, other, wanted in (
            (0, 1, 0, True), (0, 0, 0, False), (0, 2, 1, True), (0, 1, 1, False), (1, 3, 0, True), (1, 2, 0, False),
            (1, 4, 1, True), (1, 3, 1, False), (-1, 0, 0, True), (-1, 0, 1, True), (-1, 0, 2, False), (-1, 5, 6, True),
            (-1, 5, 7, False), (1000, 2001, 0, True), (1000, 2000, 0, False), (-1000, 0, 1999, True),
            (-1000, 0, 2000, False),
        ):
            self.says(wanted, (((1,),), ((-1,),)), ("tank", ((gain,), (0,))),
                      (("drained", load, (1,)), ("drained", other, (-1,))))

    def test_the_gain_of_each_option_counts(self):
        arena, goal = (((1,), (1,)), ((-1,),)), ("tank", ((0, 3), (9,)))
        for load, wanted in ((7, True), (6, False), (1, False)):
            self.says(wanted, arena, goal, (("drained", load, (1, 1)), ("drained", 0, (-1,))))
        goal = ("tank", ((3, 0), (9,)))
        for load, wanted in ((7, True), (6, False), (1, False)):
            self.says(wanted, arena, goal, (("drained", load, (1, 1)), ("drained", 0, (-1,))))

    def test_a_ring_that_loses_nothing_cannot_be_drained(self):
        for load in (0, 1, HUGE):
            self.says(False, (((0,),),), ("tank", ((0,),)), (("drained", load, (0,)),))
        self.says(True, (((0,),),), ("tank", ((-1,),)), (("drained", 0, (0,)),))

    def test_replies(self):
        for replies in ((), (-1,), (-1, 4, 4), (0, 4), (-1, 1), (4, 4), (-1, -1), (-1, 0), (-2, 4), (HUGE, 4), (-1, HUGE),
                        (4, -1)):
            self.wrong(self.paper, at5=("drained", 0, replies))
        for replies in ((), (0,), (3, 3), (2,), (-1,), (4,)):
            self.wrong(self.paper, at2=("drained", 0, replies))
        self.wrong(self.paper, at4=("drained", 0, (-1,)))


class AgainstTheDocument(Judged):
    """Told papers with changes of all sorts, compared with the document's words."""

    def test_changed_papers(self):
        chance = random.Random(30)
        counts = {True: 0, False: 0}
        for arena, goal in some_games(30, 250, 5):
            told = told_paper(arena, goal)
            for _ in range(25):
                paper = self.altered(chance, goal[0], told)
                wanted = oracles.right(arena, goal, paper)
                self.says(wanted, arena, goal, paper)
                counts[wanted] += 1
        self.assertGreater(min(counts.values()), 2000)

    def altered(self, chance, kind, told):
        """The paper with one label that is another one, or with all ranks, credits and loads changed."""
        at = chance.randrange(len(told))
        label = told[at]
        way = chance.randrange(5)
        if way == 0:
            label = self.label(chance, kind, len(told))
        elif way == 1 and len(label) == 3:
            label = (label[0], self.near(chance, label[1]), label[2])
        elif way == 2:
            label = label[:-1] + (self.near(chance, label[-1]),)
        elif way == 3:
            factor, more = chance.randint(1, 3), chance.randint(0, 2)
            return tuple(self.scaled(one, factor, more) for one in told)
        return told[:at] + (label,) + told[at + 1:]

    def scaled(self, label, factor, more):
        if len(label) < 3 or label[0] in ("comes", "driven") and label[1] == 0:
            return label
        if isinstance(label[1], tuple):
            return label[0], tuple(factor * entry + more for entry in label[1]), label[2]
        return label[0], factor * label[1] + more, label[2]

    def near(self, chance, part):
        if isinstance(part, int):
            return part + chance.choice((-2, -1, 1, 2))
        if not part or chance.random() < 0.2:
            return part + (0,) if chance.random() < 0.5 else part[1:]
        at = chance.randrange(len(part))
        return part[:at] + (part[at] + chance.choice((-1, 1)),) + part[at + 1:]

    def label(self, chance, kind, many):
        """Any label of the goal."""
        option, number = chance.randint(-1, 2), chance.randint(-1, 4)
        replies = tuple(chance.randint(-1, many) for _ in range(chance.randint(0, 2)))
        measure = tuple(chance.randint(0, 2) for _ in range(chance.randint(0, 3)))
        return chance.choice({
            "stay": (("holds", option), ("driven", number, replies)),
            "come": (("comes", number, option), ("away", replies)),
            "colours": (("even", measure, option), ("odd", measure, replies)),
            "tank": (("keeps", number, option), ("drained", number, replies)),
        }[kind])


if __name__ == "__main__":
    unittest.main()
