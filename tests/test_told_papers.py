"""Points [27], [28], [29], with [19], [26]: the told papers, and who owns the positions."""

import itertools
import unittest

from neverleaves.judging import judge
from neverleaves.solving import owners, told_paper
from tests import oracles
from tests.some_arenas import EMPTY_GOALS, some_games


def owners_in(paper):
    mine = ("holds", "comes", "even", "keeps")
    return tuple("controller" if label[0] in mine else "disturbance" for label in paper)


class Told(unittest.TestCase):
    def tells(self, arena, goal, paper):
        with self.subTest(arena=arena, goal=goal):
            self.assertEqual(repr(told_paper(arena, goal)), repr(paper))
            self.assertIs(judge(arena, goal, paper), True)
            self.assertEqual(owners(arena, goal), owners_in(paper))

    def as_the_document_says(self, arena, goal):
        # Without subTest, which takes more time than all the rest.
        paper = told_paper(arena, goal)
        told = oracles.told(arena, goal)
        if repr(paper) != repr(told) or not judge(arena, goal, paper) or owners(arena, goal) != owners_in(told):
            self.tells(arena, goal, told)


class Examples(Told):
    def test_the_interface(self):
        self.tells((((0, 1), (1,)), ((-1, 0),)), ("stay", (0, 1)), (("driven", 2, (1, 1)), ("driven", 1, (-1,))))
        self.tells((((1,),), ((0,), (1,))), ("colours", (1, 2)), (("even", (1,), 0), ("even", (0,), 0)))
        self.tells((((1,),), ((0,),)), ("tank", ((-3,), (3,))), (("keeps", 3, 0), ("keeps", 0, 0)))

    def test_the_empty_arena(self):
        for goal in EMPTY_GOALS:
            self.assertEqual(told_paper((), goal), ())
            self.assertEqual(owners((), goal), ())

    def test_one_position(self):
        for options, stay, come, even, keeps in (
            ((), ("driven", 1, ()), ("away", ()), ("odd", (0,), ()), ("drained", 0, ())),
            (((-1,),), ("driven", 1, (-1,)), ("away", (-1,)), ("odd", (0,), (-1,)), ("drained", 0, (-1,))),
            (((-1, 0),), ("driven", 1, (-1,)), ("away", (-1,)), ("odd", (0,), (-1,)), ("drained", 0, (-1,))),
            (((0,),), ("holds", 0), ("away", (0,)), ("even", (), 0), ("keeps", 0, 0)),
            (((-1,), (0,)), ("holds", 1), ("away", (-1, 0)), ("even", (), 1), ("keeps", 0, 1)),
            (((0,), (0,)), ("holds", 0), ("away", (0, 0)), ("even", (), 0), ("keeps", 0, 0)),
        ):
            arena = (options,)
            self.tells(arena, ("stay", (0,)), (stay,))
            self.tells(arena, ("stay", ()), (("driven", 0, ()),))
            self.tells(arena, ("come", ()), (come,))
            self.tells(arena, ("come", (0,)), (("comes", 0, -1),))
            self.tells(arena, ("colours", (0,)), (even,))
            self.tells(arena, ("tank", ((0,) * len(options),)), (keeps,))

    def test_a_ring_of_one_option(self):
        arena = (((1,),), ((2,),), ((0,),))
        self.tells(arena, ("stay", (0, 1, 2)), (("holds", 0),) * 3)
        self.tells(arena, ("stay", (0, 2)), (("driven", 1, (1,)), ("driven", 0, ()), ("driven", 2, (0,))))
        self.tells(arena, ("come", (1,)), (("comes", 1, 0), ("comes", 0, -1), ("comes", 2, 0)))
        self.tells(arena, ("come", ()), (("away", (1,)), ("away", (2,)), ("away", (0,))))


class Staying(Told):
    def test_the_least_option(self):
        arena = (((-1, 0), (1,), (0, 1), (0,), (0,)), ((-1,),))
        self.tells(arena, ("stay", (0, 1)), (("holds", 3), ("driven", 1, (-1,))))
        self.tells((((0,), (0,)),), ("stay", (0,)), (("holds", 0),))
        self.tells((((1,), (0, 1)), ((1,),)), ("stay", (0,)), (("driven", 1, (1, 1)), ("driven", 0, ())))

    def test_the_least_ranks_and_the_replies(self):
        arena = (((0,),), ((1, 4),), (), ((0,),), ((2, 3), (3,)), ((2, 4), (3, 4), (4, 6)), ((4, 5),))
        self.tells(arena, ("stay", (0, 1, 2, 4, 5, 6)), (
            ("holds", 0), ("driven", 2, (4,)), ("driven", 1, ()), ("driven", 0, ()), ("driven", 1, (3, 3)),
            ("driven", 2, (2, 3, 4)), ("driven", 2, (4,)),
        ))

    def test_out_comes_before_a_position_that_is_not_kept(self):
        self.tells((((-1, 1),), ()), ("stay", (0,)), (("driven", 1, (-1,)), ("driven", 0, ())))
        self.tells((((-1, 0),), ((0,),)), ("stay", (1,)), (("driven", 0, ()), ("driven", 1, (0,))))

    def test_a_reply_is_the_least_rank_and_not_the_least_number(self):
        arena = (((1,), (1, 2), (1, 2, 3)), ((2,),), ((-1,),), ())
        self.tells(arena, ("stay", (0, 1, 2)), (
            ("driven", 3, (1, 2, 3)), ("driven", 2, (2,)), ("driven", 1, (-1,)), ("driven", 0, ()),
        ))

    def test_a_reply_never_leads_to_the_controller(self):
        arena = (((0, 1), (0, 2)), ((2,), (1, 2)), ((2,), (2,)), ((0, 2, 4),), ())
        self.tells(arena, ("stay", (0, 1, 2, 3, 4)), (
            ("holds", 0), ("holds", 0), ("holds", 0), ("driven", 2, (4,)), ("driven", 1, ()),
        ))

    def test_positions_that_are_not_kept_have_no_replies(self):
        self.tells((((0,), (-1,)), ()), ("stay", ()), (("driven", 0, ()), ("driven", 0, ())))

    def test_a_long_way(self):
        arena = ((),) + tuple(((at - 1,), (at - 1, at)) for at in range(1, 200))
        keep = tuple(range(200))
        paper = (("driven", 1, ()),) + tuple(("driven", at + 1, (at - 1, at - 1)) for at in range(1, 200))
        self.tells(arena, ("stay", keep), paper)


class Coming(Told):
    def test_ranks_options_and_replies(self):
        arena = (
            ((5,),), ((0, 2), (0,)), ((1,), (0, 1), (2,)), ((2,), (1, 2), (1,)), ((-1, 0), (5,)), (),
            ((0, 5), (4, 5), (-1, 4)), ((0, 1, 7),), ((1, 4),),
        )
        self.tells(arena, ("come", (0,)), (
            ("comes", 0, -1), ("comes", 1, 1), ("comes", 2, 0), ("comes", 2, 2), ("away", (-1, 5)), ("away", ()),
            ("away", (5, 4, -1)), ("away", (7,)), ("away", (4,)),
        ))

    def test_home_without_options_and_with_ways_out(self):
        self.tells(((), ((-1,),), ((0, 1),)), ("come", (0, 1)), (("comes", 0, -1), ("comes", 0, -1), ("comes", 1, 0)))

    def test_the_rank_is_the_greatest_of_the_successors(self):
        arena = ((), ((0,),), ((1,),), ((0, 2),), ((0, 1, 3), (0, 2), (1, 2)))
        self.tells(arena, ("come", (0,)), (
            ("comes", 0, -1), ("comes", 1, 0), ("comes", 2, 0), ("comes", 3, 0), ("comes", 3, 1),
        ))

    def test_the_way_may_be_out(self):
        self.tells((((-1, 1),), ((1,),)), ("come", (1,)), (("away", (-1,)), ("comes", 0, -1)))
        self.tells((((-1, 1), (1,)), ((1,),)), ("come", (1,)), (("comes", 1, 1), ("comes", 0, -1)))

    def test_a_long_way(self):
        arena = (((0,),),) + tuple(((at,), (at - 1,)) for at in range(1, 200))
        paper = (("comes", 0, -1),) + tuple(("comes", at, 1) for at in range(1, 200))
        self.tells(arena, ("come", (0,)), paper)


class Colours(Told):
    def test_all_equal(self):
        arena = (((1,),), ((0,),))
        for colour, label in (
            (0, ("even", ())), (1, ("odd", (0,))), (2, ("even", (0,))), (3, ("odd", (0, 0))), (4, ("even", (0, 0))),
            (19, ("odd", (0,) * 10)), (20, ("even", (0,) * 10)),
        ):
            last = (0, 0) if label[0] == "even" else ((1,), (0,))
            self.tells(arena, ("colours", (colour, colour)), (label + last[:1], label + last[1:]))

    def test_even_measures_count_on_to_a_greater_colour(self):
        arena = (((1,),), ((2,),), ((3,),), ((3,),))
        self.tells(arena, ("colours", (1, 1, 1, 2)), (
            ("even", (3,), 0), ("even", (2,), 0), ("even", (1,), 0), ("even", (0,), 0),
        ))
        arena = (((1,), (3,)), ((2,),), ((3,),), ((3,),))
        self.tells(arena, ("colours", (1, 1, 1, 2)), (
            ("even", (1,), 1), ("even", (2,), 0), ("even", (1,), 0), ("even", (0,), 0),
        ))
        self.tells((((1,),), ((2,),), ((0,),)), ("colours", (1, 3, 4)), (
            ("even", (1, 1), 0), ("even", (1, 0), 0), ("even", (0, 0), 0),
        ))

    def test_the_greatest_colour_comes_first(self):
        # 0 may pass 1 (of colour 5) or two of colour 3 or three of colour 1, on its way to 7.
        arena = (((1,), (2,), (4,)), ((7,),), ((3,),), ((7,),), ((5,),), ((6,),), ((7,),), ((7,),))
        colours = (0, 5, 3, 3, 1, 1, 1, 6)
        rest = (
            ("even", (1, 0, 0), 0), ("even", (0, 2, 0), 0), ("even", (0, 1, 0), 0), ("even", (0, 0, 3), 0),
            ("even", (0, 0, 2), 0), ("even", (0, 0, 1), 0), ("even", (0, 0, 0), 0),
        )
        self.tells(arena, ("colours", colours), (("even", (0, 0, 3), 2),) + rest)
        for options, measure in ((((1,), (2,)), (0, 2, 0)), (((1,), (2, 4)), (0, 2, 0)), (((1, 4), (1,)), (1, 0, 0))):
            index = 0 if len(options[0]) == 2 else 1
            self.tells((options,) + arena[1:], ("colours", colours), (("even", measure, index),) + rest)

    def test_colours_that_no_position_has(self):
        self.tells((((1,),), ((0,),)), ("colours", (3, 6)), (("even", (0, 1, 0), 0), ("even", (0, 0, 0), 0)))
        self.tells((((1,),), ((0,),)), ("colours", (2, 5)), (("odd", (0, 1, 0), (1,)), ("odd", (0, 0, 0), (0,))))

    def test_odd_measures_count_on_to_a_greater_colour(self):
        self.tells((((1,),), ((0,),)), ("colours", (1, 0)), (("odd", (0,), (1,)), ("odd", (1,), (0,))))
        arena = (((1,),), ((2,),), ())
        self.tells(arena, ("colours", (2, 2, 2)), (("odd", (2, 0), (1,)), ("odd", (1, 0), (2,)), ("odd", (0, 0), ())))
        self.tells((((1,),), ((2,),), ((0,),)), ("colours", (0, 2, 3)), (
            ("odd", (1, 1), (1,)), ("odd", (1, 0), (2,)), ("odd", (0, 0), (0,)),
        ))

    def test_out_and_stuck_have_measures_of_0(self):
        for colour in range(6):
            zeros = (0,) * (colour // 2 + 1)
            self.tells(((),), ("colours", (colour,)), (("odd", zeros, ()),))
            self.tells((((-1,),),), ("colours", (colour,)), (("odd", zeros, (-1,)),))
        # An option with which the play may be out adds nothing, whatever else it has.
        arena = (((-1, 1), (1, 2)), ((2,),), ())
        self.tells(arena, ("colours", (0, 2, 0)), (
            ("odd", (0, 1), (-1, 2)), ("odd", (1, 0), (2,)), ("odd", (0, 0), ()),
        ))

    def test_the_least_option_that_is_right(self):
        arena = (((1,), (0, 1), (0,)), ((0,),))
        self.tells(arena, ("colours", (2, 1)), (("even", (0,), 0), ("even", (1,), 0)))
        arena = (((-1, 1), (0,), (1,)), ((1,), (1,)))
        self.tells(arena, ("colours", (1, 0)), (("even", (1,), 2), ("even", (0,), 0)))

    def test_the_least_reply_that_is_right(self):
        arena = (((0, 1, 2), (-1, 2)), ((2,),), ((2,),))
        self.tells(arena, ("colours", (0, 0, 1)), (
            ("odd", (1,), (2, -1)), ("odd", (1,), (2,)), ("odd", (0,), (2,)),
        ))
        self.tells(arena, ("colours", (1, 1, 1)), (("odd", (0,), (0, -1)), ("odd", (0,), (2,)), ("odd", (0,), (2,))))

    def test_the_greatest_of_the_options_counts_for_the_disturbance(self):
        arena = (((1,), (2,)), ((2,),), ((3,),), ((3,),))
        self.tells(arena, ("colours", (0, 0, 0, 3)), (
            ("odd", (0, 3), (1, 2)), ("odd", (0, 2), (2,)), ("odd", (0, 1), (3,)), ("odd", (0, 0), (3,)),
        ))

    def test_a_colour_that_may_be_met_again_and_again(self):
        # The controller can always go on to colour 2, or stay at colour 1 or 3.
        arena = (((0,), (1,)), ((0,), (2,), (1,)), ((1,), (2,)))
        self.tells(arena, ("colours", (2, 1, 3)), (("even", (0, 0), 0), ("even", (0, 1), 0), ("even", (1, 0), 0)))
        self.tells(arena, ("colours", (1, 1, 3)), (("odd", (0, 0), (0, 1)), ("odd", (0, 0), (0, 2, 1)),
                                                   ("odd", (0, 0), (1, 2))))


class Tanks(Told):
    def test_rings(self):
        arena = (((1,),), ((0,),))
        for first, second, label, other in (
            (-3, 3, ("keeps", 3, 0), ("keeps", 0, 0)),
            (3, -3, ("keeps", 0, 0), ("keeps", 3, 0)),
            (-2, 3, ("keeps", 2, 0), ("keeps", 0, 0)),
            (0, 0, ("keeps", 0, 0), ("keeps", 0, 0)),
            (0, 1, ("keeps", 0, 0), ("keeps", 0, 0)),
            (-2, 1, ("drained", 0, (1,)), ("drained", 3, (0,))),
            (-1, 0, ("drained", 0, (1,)), ("drained", 1, (0,))),
            (-1, -1, ("drained", 0, (1,)), ("drained", 0, (0,))),
            (1000, -1000, ("keeps", 0, 0), ("keeps", 1000, 0)),
            (999, -1000, ("drained", 1999, (1,)), ("drained", 0, (0,))),
            (1000, -999, ("keeps", 0, 0), ("keeps", 999, 0)),
            (1000, 1000, ("keeps", 0, 0), ("keeps", 0, 0)),
            (-1000, -1000, ("drained", 0, (1,)), ("drained", 0, (0,))),
        ):
            self.tells(arena, ("tank", ((first,), (second,))), (label, other))

    def test_long_rings(self):
        for many in (3, 5, 20, 200):
            for total in (-1, 0, 1):
                gains = [(-1) ** at * (1000 - 7 * at % 500) for at in range(many)]
                for at in range(many):
                    gains[at] = max(-1000, min(1000, gains[at] + total - sum(gains)))
                self.assertEqual(sum(gains), total)
                self.check_ring(gains, 1)
                self.check_ring(gains, -1)

    def check_ring(self, gains, step):
        many = len(gains)
        arena = tuple((((at + step) % many,),) for at in range(many))
        paper = []
        for at in range(many):
            row = [gains[(at + step * k) % many] for k in range(many)]
            if sum(gains) >= 0:
                paper.append(("keeps", max([0] + [-part for part in itertools.accumulate(row)]), 0))
            else:
                row = [many * gain + 1 for gain in row]
                paper.append(("drained", max([0] + list(itertools.accumulate(row))), ((at + step) % many,)))
        self.tells(arena, ("tank", tuple((gain,) for gain in gains)), tuple(paper))

    def test_a_loss_that_is_better_than_a_ring(self):
        # The ring loses 1 each time; the way out of it loses 1000, once.
        arena = (((1,), (2,)), ((0,),), ((2,),))
        self.tells(arena, ("tank", ((-1, -1000), (0,), (0,))), (("keeps", 1000, 1), ("keeps", 1000, 0), ("keeps", 0, 0)))
        self.tells(arena, ("tank", ((0, -1000), (0,), (0,))), (("keeps", 0, 0), ("keeps", 0, 0), ("keeps", 0, 0)))
        self.tells(arena, ("tank", ((-1, -1000), (1,), (0,))), (("keeps", 1, 0), ("keeps", 0, 0), ("keeps", 0, 0)))

    def test_the_least_option_that_is_right(self):
        arena = (((0, 1), (0,), (0,), (0,)), ((-1,),))
        self.tells(arena, ("tank", ((5, -1, 0, 1), (9,))), (("keeps", 0, 2), ("drained", 0, (-1,))))

    def test_the_greatest_of_the_successors_counts(self):
        arena = (((1, 2), (1,)), ((1,), (3,)), ((3,),), ((3,),))
        self.tells(arena, ("tank", ((2, -9), (-1, -4), (-7,), (0,))), (
            ("keeps", 5, 0), ("keeps", 4, 1), ("keeps", 7, 0), ("keeps", 0, 0),
        ))

    def test_ways_out_and_stuck_positions(self):
        arena = (((-1, 0),), (), ((0,), (1,), (-1, 2)), ((2, 3),))
        self.tells(arena, ("tank", ((9,), (), (5, 6, 7), (0,))), (
            ("drained", 0, (-1,)), ("drained", 0, ()), ("drained", 25, (0, 1, -1)), ("drained", 26, (2,)),
        ))

    def test_loads_and_replies(self):
        # With four positions, a gain of g takes 4 * g + 1.
        arena = (((1, 2, 3), (3,)), ((-1,),), ((1,),), ((-1, 3),))
        self.tells(arena, ("tank", ((0, 1), (9,), (2,), (0,))), (
            ("drained", 5, (1, 3)), ("drained", 0, (-1,)), ("drained", 9, (1,)), ("drained", 0, (-1,)),
        ))
        arena = (((1, 2),), ((2,),), ((-1,),), ((3,),))
        self.tells(arena, ("tank", ((-2,), (1,), (9,), (0,))), (
            ("drained", 0, (1,)), ("drained", 5, (2,)), ("drained", 0, (-1,)), ("keeps", 0, 0),
        ))
        self.tells(arena, ("tank", ((-1,), (1,), (9,), (0,))), (
            ("drained", 0, (2,)), ("drained", 5, (2,)), ("drained", 0, (-1,)), ("keeps", 0, 0),
        ))

    def test_the_disturbance_draws_on_a_ring(self):
        # From 0 the disturbance can go round and lose 1 each time, whatever else may come.
        arena = (((0, 1), (0, 2)), ((1,),), ((2,),))
        self.tells(arena, ("tank", ((-1, -1), (9,), (0,))), (("drained", 0, (0, 0)), ("keeps", 0, 0), ("keeps", 0, 0)))
        self.tells(arena, ("tank", ((-1, 0), (9,), (0,))), (("keeps", 0, 1), ("keeps", 0, 0), ("keeps", 0, 0)))


class OneSideAlone(Told):
    def test_no_positions_of_the_disturbance(self):
        arena = (((0, 1), (2,)), ((1,), (-1,)), ((0,), (1, 2)))
        for goal in (("stay", (0, 1, 2)), ("come", (0, 1, 2)), ("colours", (2, 0, 4)), ("tank", ((0, 0), (0, 0), (0, 0)))):
            self.assertEqual(owners(arena, goal), ("controller",) * 3)
            self.as_the_document_says(arena, goal)

    def test_no_positions_of_the_controller(self):
        arena = (((0, 1), (2,)), ((1,), (-1,)), ((0,), (1, 2)))
        for goal in (("stay", ()), ("come", ()), ("colours", (1, 3, 5)), ("tank", ((-1, -1), (-2, 1), (-1, -1)))):
            self.assertEqual(owners(arena, goal), ("disturbance",) * 3)
            self.as_the_document_says(arena, goal)


class AgainstTheDocument(Told):
    """Compared with the document's words, for arenas of many shapes."""

    def test_all_small_arenas(self):
        option = [(-1,), (0,), (1,), (-1, 0), (-1, 1), (0, 1), (-1, 0, 1)]
        rows = [()] + [(one,) for one in option] + [(one, other) for one in option for other in option if one != other]
        goals = [(kind, told) for kind in ("stay", "come") for told in ((), (0,), (1,), (0, 1))]
        goals += [("colours", told) for told in ((0, 1), (1, 2), (2, 3), (3, 2))]
        for number, arena in enumerate(itertools.product(rows, repeat=2)):
            for goal in goals[number % 3::3]:
                self.as_the_document_says(arena, goal)
            gains = tuple(tuple((number // 3 ** (2 * at + k)) % 3 - 1 for k in range(len(options)))
                          for at, options in enumerate(arena))
            self.as_the_document_says(arena, ("tank", gains))

    def test_many_arenas(self):
        for arena, goal in some_games(27, 1500):
            self.as_the_document_says(arena, goal)

    def test_larger_arenas(self):
        for arena, goal in some_games(28, 60, 25):
            self.as_the_document_says(arena, goal)

    def test_great_gains(self):
        for arena, goal in some_games(29, 150, 4):
            if goal[0] == "tank":
                gains = tuple(tuple(max(-1000, min(1000, 331 * gain + at)) for gain in row)
                              for at, row in enumerate(goal[1]))
                self.as_the_document_says(arena, ("tank", gains))


class GreatArenas(unittest.TestCase):
    """Calls within the bounds of point [3] end, and the judge takes what they tell."""

    def check(self, arena, goal):
        paper = told_paper(arena, goal)
        self.assertIs(judge(arena, goal, paper), True)
        self.assertEqual(owners(arena, goal), owners_in(paper))

    def test_many_options_and_successors(self):
        whole = tuple(range(200))
        arena = ((whole,) * 60,) * 100 + ((whole[:100], whole[100:]) * 30,) * 100
        self.check(arena, ("stay", whole))
        self.check(arena, ("come", (7,)))
        self.check(arena, ("colours", tuple(at % 21 for at in whole)))
        self.check(arena, ("tank", (tuple(range(-30, 30)),) * 200))

    def test_measures_that_would_be_lifted_very_often(self):
        # Lifting by 1 again and again, 0 would go through all measures that are less than that of 1.
        colours = [1, 19, 20] + [colour for colour in range(1, 20, 2) for _ in range(10)]
        arena = (((0,), (1,)), ((2,),)) + (((2,),),) * (len(colours) - 2)
        paper = told_paper(arena, ("colours", tuple(colours)))
        self.assertEqual(paper[:3], (
            ("even", (1, 0, 0, 0, 0, 0, 0, 0, 0, 1), 1), ("even", (1, 0, 0, 0, 0, 0, 0, 0, 0, 0), 0), ("even", (0,) * 10, 0),
        ))
        for colour, label in zip(colours[3:], paper[3:]):
            measure = tuple(1 if entry == colour else 0 for entry in range(19, 0, -2))
            self.assertEqual(label, ("even", measure, 0))
        # Without the way out, 0 would go through all measures.
        arena = (((0,),),) + arena[1:]
        self.assertEqual(told_paper(arena, ("colours", tuple(colours)))[0], ("odd", (0,) * 11, (0,)))

    def test_odd_measures_that_would_be_lifted_very_often(self):
        colours = [0, 18, 19] + [colour for colour in range(0, 19, 2) for _ in range(10)]
        arena = (((0, 1),), ((2,),)) + (((2,),),) * (len(colours) - 2)
        paper = told_paper(arena, ("colours", tuple(colours)))
        self.assertEqual(paper[:3], (
            ("odd", (1, 0, 0, 0, 0, 0, 0, 0, 0, 1), (1,)), ("odd", (1, 0, 0, 0, 0, 0, 0, 0, 0, 0), (2,)),
            ("odd", (0,) * 10, (2,)),
        ))
        arena = (((0,),),) + arena[1:]
        self.assertEqual(told_paper(arena, ("colours", tuple(colours)))[0], ("even", (0,) * 10, 0))

    def test_credits_and_loads_that_would_be_lifted_very_often(self):
        # At 0 a ring loses 1 each time; the way from 1 to the last position loses 1000 at each one.
        arena = (((0,), (1,)),) + tuple(((min(at + 1, 199),),) for at in range(1, 200))
        gains = ((-1, 0),) + ((-1000,),) * 198 + ((0,),)
        paper = told_paper(arena, ("tank", gains))
        self.assertEqual(paper[:2], (("keeps", 198000, 1), ("keeps", 198000, 0)))
        self.assertEqual(paper[198:], (("keeps", 1000, 0), ("keeps", 0, 0)))
        # The other way round: a ring that gains nothing, or 1000 at each position, and then 1 is lost each time.
        arena = (((0, 1),),) + arena[1:]
        gains = ((0,),) + ((1000,),) * 198 + ((-1,),)
        paper = told_paper(arena, ("tank", gains))
        self.assertEqual(paper[:2], (("drained", 198 * 200001 + 1, (1,)), ("drained", 198 * 200001, (2,))))
        self.assertEqual(paper[198:], (("drained", 200001, (199,)), ("drained", 0, (199,))))

    def test_long_rings_of_colours(self):
        for many, step in ((200, 1), (200, 199), (199, 30)):
            arena = tuple((((at + step) % many,), ((at + 1) % many, (at + 2) % many)) for at in range(many))
            arena = tuple(tuple(tuple(sorted(option)) for option in options) for options in arena)
            for greatest in (2, 5, 20):
                self.check(arena, ("colours", tuple(at * 7 % (greatest + 1) for at in range(many))))


if __name__ == "__main__":
    unittest.main()
