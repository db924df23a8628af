"""Points [38], [39], with point [40]: loops, their deeds, their errors and their journals."""

import random
import unittest

from neverleaves.errors import (
    BadReply, BadText, ControlError, Held, InvalidArena, InvalidExpression, InvalidGoal, InvalidPlant, Lost, NoPosition,
    NotHeld,
)
from neverleaves.loops import Loop, replayed
from neverleaves.shields import shield
from neverleaves.solving import owners, told_paper
from tests import oracles
from tests.some_arenas import some_games

ALL_ERRORS = (
    InvalidExpression, InvalidPlant, InvalidArena, InvalidGoal, BadText, NoPosition, Held, NotHeld, BadReply, Lost,
)
HUGE = 10 ** 80

# From 0 and 1 the controller can stay in 0, 1 and 2; 3 leads out, 4 is stuck, 5 is not kept.
ARENA = (
    ((1, 2), (0,), (3,), (-1, 0), (1, 4)),
    ((0,), (5,), (2,)),
    ((0, 1), (2,)),
    ((-1, 0),),
    (),
    ((0,),),
)
KEEP = (0, 1, 2, 3, 4)
EVERY = (0, 1, 2, 3, 4, 5)


def state_of(loop):
    return loop.position(), loop.is_held(), loop.arena(), loop.keep(), loop.paper(), loop.journal()


class LoopTests(unittest.TestCase):
    def loop(self, start=0, deeds=(), arena=ARENA, keep=KEEP):
        loop = Loop(arena, keep, start)
        for deed in deeds:
            loop.do(deed)
        return loop

    def raises(self, error, function, *arguments):
        with self.assertRaises(ControlError) as caught:
            function(*arguments)
        self.assertIs(type(caught.exception), error)
        self.assertIsInstance(caught.exception, ValueError)
        for other in ALL_ERRORS:
            self.assertEqual(isinstance(caught.exception, other), other is error)

    def refuses(self, loop, error, *deeds):
        """Each deed raises the error and changes nothing."""
        before = state_of(loop)
        for deed in deeds:
            with self.subTest(deed=deed):
                self.raises(error, loop.do, deed)
                self.assertEqual(state_of(loop), before)

    def does(self, loop, deed, position):
        """The deed is carried out, and the plant stands there; what else it changes is told by the caller."""
        journal = loop.journal()
        self.assertEqual(loop.do(deed), position)
        self.assertEqual(loop.position(), position)
        self.assertEqual(loop.journal(), journal + (deed,))
        self.assertEqual(loop.paper(), told_paper(loop.arena(), ("stay", loop.keep())))


class Beginnings(LoopTests):
    def test_a_new_loop(self):
        for start in (0, 1, 2):
            loop = Loop(ARENA, KEEP, start)
            self.assertEqual(repr(loop.position()), repr(start))
            self.assertIs(loop.is_held(), False)
            self.assertEqual(repr(loop.arena()), repr(ARENA))
            self.assertEqual(repr(loop.keep()), repr(KEEP))
            self.assertEqual(repr(loop.paper()), repr(told_paper(ARENA, ("stay", KEEP))))
            self.assertEqual(repr(loop.journal()), "()")

    def test_the_paper_is_the_told_one(self):
        self.assertEqual(Loop(ARENA, KEEP, 0).paper(), (
            ("holds", 0), ("holds", 0), ("holds", 0), ("driven", 1, (-1,)), ("driven", 1, ()), ("driven", 0, ()),
        ))

    def test_a_start_that_is_no_position(self):
        for start in (-1, -2, -6, 6, 7, 1000, HUGE, -HUGE):
            self.raises(NoPosition, Loop, ARENA, KEEP, start)
            self.raises(NoPosition, replayed, ARENA, KEEP, start, ())
        for start in (0, -1, 1):
            self.raises(NoPosition, Loop, (), (), start)

    def test_a_start_that_the_disturbance_owns(self):
        for start in (3, 4, 5):
            self.raises(Lost, Loop, ARENA, KEEP, start)
            self.raises(Lost, replayed, ARENA, KEEP, start, ())
        for start in range(6):
            self.raises(Lost, Loop, ARENA, (), start)
        self.raises(Lost, Loop, ARENA, (1, 2), 0)
        self.raises(Lost, Loop, ARENA, (3, 4, 5), 5)


class Steps(LoopTests):
    def test_steps(self):
        loop = self.loop()
        for reply in (2, 1, 0, 1, 0, 2, 0, 1):
            self.does(loop, ("step", reply), reply)
        self.assertEqual((loop.arena(), loop.keep(), loop.is_held()), (ARENA, KEEP, False))

    def test_the_option_of_the_label_is_picked(self):
        # The least option that is safe is not the first one.
        arena = (((-1,), (1,), (0,)), ((2,), (1,), (0,)), ())
        loop = self.loop(0, (), arena, (0, 1))
        self.refuses(loop, BadReply, ("step", 0), ("step", -1), ("step", 2))
        self.does(loop, ("step", 1), 1)
        self.refuses(loop, BadReply, ("step", 0), ("step", 2))
        self.does(loop, ("step", 1), 1)

    def test_a_reply_that_is_none(self):
        wrong = [("step", reply) for reply in (-1, 0, 3, 4, 5, 6, -2, -6, HUGE, -HUGE)]
        self.refuses(self.loop(), BadReply, *wrong)
        self.refuses(self.loop(1), BadReply, *[("step", reply) for reply in (-1, 1, 2, 5, 6, -6, HUGE)])

    def test_held_before_a_bad_reply(self):
        loop = self.loop(0, [("hold",)])
        self.refuses(loop, Held, ("step", 1), ("step", 0), ("step", -1), ("step", HUGE))


class Picks(LoopTests):
    def test_options_of_the_shield(self):
        loop = self.loop()
        for option, reply in ((0, 1), (2, 2), (1, 2), (0, 0), (1, 0), (0, 2), (0, 1), (0, 0)):
            self.does(loop, ("pick", option, reply), reply)
        self.assertEqual((loop.arena(), loop.keep(), loop.is_held()), (ARENA, KEEP, False))

    def test_options_that_are_not_in_the_shield(self):
        # Whatever the reply is, also one that would be harmless, or none at all.
        loop = self.loop()
        for option in (2, 3, 4):
            self.refuses(loop, Lost, *[("pick", option, reply) for reply in (-1, 0, 1, 2, 3, 4, 7, HUGE)])
        self.refuses(self.loop(1), Lost, ("pick", 1, 5), ("pick", 1, 0))

    def test_options_that_are_no_index(self):
        self.refuses(self.loop(), Lost, *[("pick", option, reply) for option in (-1, -2, -5, -6, 5, 6, HUGE, -HUGE)
                                          for reply in (0, 1, -1, 9)])
        self.refuses(self.loop(2), Lost, ("pick", 2, 2), ("pick", -1, 2))

    def test_a_reply_that_is_none(self):
        self.refuses(self.loop(), BadReply, *[("pick", 0, reply) for reply in (-1, 0, 3, 4, 5, 6, -6, HUGE, -HUGE)])
        self.refuses(self.loop(), BadReply, ("pick", 1, 1), ("pick", 1, -1))

    def test_held_before_lost_before_a_bad_reply(self):
        loop = self.loop(0, [("hold",)])
        self.refuses(loop, Held, ("pick", 0, 1), ("pick", 0, 5), ("pick", 2, 3), ("pick", 9, 9), ("pick", -1, -1))
        loop.do(("resume",))
        self.refuses(loop, Lost, ("pick", 2, 0), ("pick", 9, 9), ("pick", -1, -1))

    def test_the_shield_is_that_of_the_arena_and_the_goal_at_that_time(self):
        loop = self.loop()
        loop.do(("change", 3, ((0,),)))
        self.does(loop, ("pick", 2, 3), 3)
        self.does(loop, ("pick", 0, 0), 0)
        loop.do(("keep", (0, 1, 2)))
        self.refuses(loop, Lost, ("pick", 2, 3))
        loop.do(("keep", (0, 1, 2, 3, 5)))
        self.does(loop, ("pick", 2, 3), 3)
        loop.do(("step", 0))
        loop.do(("change", 1, ((5,),)))
        self.does(loop, ("pick", 0, 1), 1)
        self.does(loop, ("pick", 0, 5), 5)
        loop.do(("step", 0))
        loop.do(("change", 5, ((-1,),)))
        self.refuses(loop, Lost, ("pick", 0, 1), ("pick", 0, 2))


class Holds(LoopTests):
    def test_hold_and_resume(self):
        loop = self.loop(1)
        for _ in range(3):
            self.does(loop, ("hold",), 1)
            self.assertIs(loop.is_held(), True)
            self.does(loop, ("resume",), 1)
            self.assertIs(loop.is_held(), False)
        self.assertEqual((loop.arena(), loop.keep()), (ARENA, KEEP))

    def test_held_already_or_not_held(self):
        loop = self.loop(1)
        self.refuses(loop, NotHeld, ("resume",))
        loop.do(("hold",))
        self.refuses(loop, Held, ("hold",))
        loop.do(("resume",))
        self.refuses(loop, NotHeld, ("resume",))

    def test_the_other_deeds_are_carried_out_while_the_loop_is_held(self):
        loop = self.loop(1, [("hold",)])
        self.does(loop, ("move", 2), 2)
        self.does(loop, ("change", 3, ((0,), (2,))), 2)
        self.does(loop, ("keep", (0, 1, 2, 3)), 2)
        self.assertIs(loop.is_held(), True)
        self.assertEqual(loop.arena(), ARENA[:3] + (((0,), (2,)),) + ARENA[4:])
        self.assertEqual(loop.keep(), (0, 1, 2, 3))
        self.refuses(loop, Held, ("step", 2), ("pick", 1, 2), ("hold",))
        self.does(loop, ("resume",), 2)
        self.does(loop, ("pick", 1, 2), 2)

    def test_other_errors_while_the_loop_is_held(self):
        loop = self.loop(1, [("hold",)])
        self.refuses(loop, NoPosition, ("move", 6), ("change", -1, ()))
        self.refuses(loop, Lost, ("move", 3), ("change", 1, ()), ("keep", ()))
        self.refuses(loop, InvalidArena, ("change", 0, ((),)))
        self.refuses(loop, InvalidGoal, ("keep", (1, 0)))


class Moves(LoopTests):
    def test_moves(self):
        loop = self.loop()
        for position in (2, 1, 1, 0, 2):
            self.does(loop, ("move", position), position)
        self.assertEqual((loop.arena(), loop.keep(), loop.is_held()), (ARENA, KEEP, False))
        loop.do(("keep", EVERY))
        self.does(loop, ("move", 5), 5)

    def test_no_such_position(self):
        self.refuses(self.loop(), NoPosition, *[("move", position) for position in (-1, -2, -6, 6, 7, 100, HUGE, -HUGE)])

    def test_a_position_of_the_disturbance(self):
        self.refuses(self.loop(), Lost, ("move", 3), ("move", 4), ("move", 5))


class Changes(LoopTests):
    def test_changes(self):
        loop = self.loop(1)
        for position, options in ((4, ((4,),)), (3, ((0, 4), (2,))), (0, ((3,),)), (5, ()), (1, ((0, 1, 2, 3, 4),)), (1, ((1,), (-1,)))):
            arena = loop.arena()
            self.does(loop, ("change", position, options), 1)
            self.assertEqual(loop.arena(), arena[:position] + (options,) + arena[position + 1:])
            self.assertEqual((loop.keep(), loop.is_held()), (KEEP, False))
        self.assertEqual(repr(loop.arena()), repr((((3,),), ((1,), (-1,)), ((0, 1), (2,)), ((0, 4), (2,)), ((4,),), ())))
        self.assertEqual(ARENA[1], ((0,), (5,), (2,)))

    def test_no_such_position(self):
        for position in (-1, -6, 6, 7, HUGE, -HUGE):
            self.refuses(self.loop(), NoPosition, ("change", position, ((0,),)), ("change", position, ()),
                         ("change", position, ((),)), ("change", position, ((7, 3, 3),)))

    def test_options_that_are_not_right(self):
        wrong = (
            ((),), ((0,), ()), ((), (0,)), ((1, 0),), ((0, 0),), ((0,), (2, 1)), ((0, 2, 2),), ((6,),), ((0, 6),), ((-2,),),
            ((-2, 0),), ((0, -1),), ((-1, -1),), ((HUGE,),), ((-HUGE, 0),), ((0,), (0,), (0, 1, 2, 3, 4, 5, 6)),
        )
        for position in range(6):
            self.refuses(self.loop(1), InvalidArena, *[("change", position, options) for options in wrong])

    def test_the_position_of_the_plant_would_be_lost(self):
        self.refuses(self.loop(0), Lost, ("change", 0, ()), ("change", 0, ((-1,),)), ("change", 0, ((0, 3),)),
                     ("change", 0, ((4,), (5,), (-1, 0, 1))))
        # Changes elsewhere, after which the plant could not be kept.
        loop = self.loop(0, [("change", 0, ((1, 2),))])
        self.refuses(loop, Lost, ("change", 2, ()), ("change", 1, ((5,),)), ("change", 2, ((3, 4), (-1, 0, 1, 2))))

    def test_a_position_that_the_disturbance_owns_may_be_changed(self):
        loop = self.loop(0)
        for position in (3, 4, 5):
            for options in ((), ((-1,),), ((0,),), ((position,),)):
                self.does(loop, ("change", position, options), 0)
        self.does(loop, ("move", 3), 3)

    def test_a_position_of_the_controller_may_be_given_up(self):
        loop = self.loop(0)
        self.does(loop, ("change", 1, ()), 0)
        self.assertEqual(loop.paper()[1], ("driven", 1, ()))
        self.refuses(loop, Lost, ("move", 1), ("pick", 0, 1), ("pick", 0, 2))
        self.does(loop, ("step", 0), 0)
        self.refuses(loop, BadReply, ("step", 1), ("step", 2))

    def test_a_change_that_changes_nothing(self):
        loop = self.loop(0)
        self.does(loop, ("change", 0, ARENA[0]), 0)
        self.assertEqual(state_of(loop)[2:5], state_of(self.loop())[2:5])

    def test_invalid_before_lost(self):
        self.refuses(self.loop(0), InvalidArena, ("change", 0, ((),)), ("change", 0, ((-1,), (6,))))


class Keeps(LoopTests):
    def test_other_positions(self):
        loop = self.loop(0)
        for keep in ((0,), (0, 5), (0, 1, 2, 5), EVERY, (0, 1), (0, 3, 4)):
            self.does(loop, ("keep", keep), 0)
            self.assertEqual(repr(loop.keep()), repr(keep))
            self.assertEqual((loop.arena(), loop.is_held()), (ARENA, False))

    def test_the_option_of_the_label_is_that_of_the_new_paper(self):
        loop = self.loop(0)
        loop.do(("keep", (0, 2)))
        self.refuses(loop, BadReply, ("step", 1), ("step", 2))
        self.does(loop, ("step", 0), 0)

    def test_a_goal_that_is_not_right(self):
        self.refuses(self.loop(0), InvalidGoal, *[("keep", keep) for keep in (
            (1, 0), (0, 0), (0, 1, 1), (-1,), (-1, 0), (0, 6), (6,), (0, 1, 2, 3, 4, 5, 6), (HUGE,), (-HUGE, 0), (2, 1, 0),
        )])

    def test_the_position_of_the_plant_would_be_lost(self):
        self.refuses(self.loop(0), Lost, ("keep", ()), ("keep", (1,)), ("keep", (1, 2, 3, 4, 5)), ("keep", (3, 4)))
        self.refuses(self.loop(1), Lost, ("keep", (1,)), ("keep", (1, 3, 4, 5)), ("keep", (0, 2)))

    def test_invalid_before_lost(self):
        self.refuses(self.loop(0), InvalidGoal, ("keep", (2, 1)), ("keep", (6,)), ("keep", (-1,)))


class Journals(LoopTests):
    DEEDS = (
        ("step", 2), ("hold",), ("move", 1), ("change", 3, ((0,),)), ("resume",), ("pick", 0, 0), ("keep", EVERY),
        ("pick", 2, 3), ("step", 0), ("change", 3, ((-1, 0),)), ("step", 1), ("pick", 1, 5), ("hold",),
    )

    def test_the_journal_has_all_deeds_that_were_carried_out(self):
        loop = self.loop()
        for number, deed in enumerate(self.DEEDS):
            loop.do(deed)
            self.assertEqual(repr(loop.journal()), repr(self.DEEDS[:number + 1]))

    def test_a_deed_that_raises_an_error_is_not_in_the_journal(self):
        loop = self.loop()
        self.refuses(loop, BadReply, ("step", 0))
        self.assertEqual(loop.journal(), ())
        loop.do(("step", 1))
        self.refuses(loop, Lost, ("pick", 1, 5))
        self.assertEqual(loop.journal(), (("step", 1),))

    def test_made_anew(self):
        loop = self.loop(0, self.DEEDS)
        for journal in (loop.journal(), list(loop.journal())):
            again = replayed(ARENA, KEEP, 0, journal)
            self.assertIs(type(again), Loop)
            self.assertEqual(state_of(again), state_of(loop))

    def test_without_deeds(self):
        for journal in ((), []):
            self.assertEqual(state_of(replayed(ARENA, KEEP, 2, journal)), state_of(Loop(ARENA, KEEP, 2)))

    def test_a_beginning_and_then_the_rest(self):
        whole = self.loop(0, self.DEEDS)
        for many in range(len(self.DEEDS) + 1):
            loop = replayed(ARENA, KEEP, 0, self.DEEDS[:many])
            self.assertEqual(loop.journal(), self.DEEDS[:many])
            for deed in self.DEEDS[many:]:
                loop.do(deed)
            self.assertEqual(state_of(loop), state_of(whole))

    def test_a_deed_that_raises_an_error(self):
        for error, deed in (
            (BadReply, ("step", 0)), (Lost, ("pick", 3, 0)), (BadReply, ("pick", 0, 4)), (NotHeld, ("resume",)),
            (NoPosition, ("move", 6)), (Lost, ("move", 4)), (NoPosition, ("change", -1, ())),
            (InvalidArena, ("change", 2, ((),))), (Lost, ("change", 0, ())), (InvalidGoal, ("keep", (0, 0))), (Lost, ("keep", ())),
        ):
            # The first error counts, whatever comes behind it.
            for journal in ((deed,), [deed, ("step", 99)], (("step", 2), ("move", 0), deed, ("hold",), ("hold",))):
                self.raises(error, replayed, ARENA, KEEP, 0, journal)
        self.raises(Held, replayed, ARENA, KEEP, 0, [("hold",), ("step", 1)])
        self.raises(Held, replayed, ARENA, KEEP, 0, (("hold",), ("hold",), ("move", 77)))

    def test_a_beginning_that_raises_an_error_raises_it_first(self):
        for journal in ((), (("step", 0),), [("resume",)], (("move", 77),)):
            self.raises(NoPosition, replayed, ARENA, KEEP, 6, journal)
            self.raises(NoPosition, replayed, ARENA, KEEP, -1, journal)
            self.raises(Lost, replayed, ARENA, KEEP, 3, journal)
            self.raises(Lost, replayed, ARENA, (), 0, journal)

    def test_the_list_stays_as_it_was_and_may_change_later(self):
        journal = list(self.DEEDS)
        loop = replayed(ARENA, KEEP, 0, journal)
        self.assertEqual(journal, list(self.DEEDS))
        before = state_of(loop)
        journal.append(("step", 0))
        journal[0] = ("resume",)
        self.assertEqual(state_of(loop), before)
        loop.do(("resume",))
        self.assertEqual(journal, [("resume",)] + list(self.DEEDS[1:]) + [("step", 0)])

    def test_a_journal_that_was_told_stays_as_it_was(self):
        loop = self.loop()
        told = loop.journal()
        loop.do(("hold",))
        self.assertEqual((told, loop.journal()), ((), (("hold",),)))

    def test_a_change_and_its_opposite(self):
        for first, second in (
            (("hold",), ("resume",)),
            (("move", 2), ("move", 0)),
            (("change", 3, ((0,),)), ("change", 3, ARENA[3])),
            (("change", 0, ((0,),)), ("change", 0, ARENA[0])),
            (("keep", (0,)), ("keep", KEEP)),
            (("step", 1), ("step", 0)),
        ):
            loop = self.loop(0, (first, second))
            self.assertEqual(state_of(loop)[:5], state_of(self.loop())[:5])
            self.assertEqual(loop.journal(), (first, second))
            self.does(loop, ("step", 1), 1)


class SeveralLoops(LoopTests):
    def test_two_loops_do_not_touch_each_other(self):
        for other in (lambda: self.loop(), lambda: replayed(ARENA, KEEP, 0, ())):
            one, two = self.loop(), other()
            before = state_of(two)
            for deed in Journals.DEEDS:
                one.do(deed)
                self.assertEqual(state_of(two), before)
            after = state_of(one)
            two.do(("hold",))
            two.do(("keep", (0,)))
            self.assertEqual(state_of(one), after)
            self.assertEqual(two.journal(), (("hold",), ("keep", (0,))))


class Model:
    """What the document says of a loop, with everything found anew each time."""

    def __init__(self, arena, keep, start):
        self.arena, self.keep, self.position, self.held, self.journal = arena, keep, start, False, ()

    def owned(self):
        return oracles.stay_owned(self.arena, self.keep)

    def paper(self):
        return oracles.told_stay(self.arena, self.keep)

    def state(self):
        return self.position, self.held, self.arena, self.keep, self.paper(), self.journal

    def do(self, deed):
        """The error, or None if the deed was carried out."""
        before = self.arena, self.keep, self.position, self.held
        error = getattr(self, "do_" + deed[0])(*deed[1:])
        if error is not None:
            self.arena, self.keep, self.position, self.held = before
        else:
            self.journal += (deed,)
        return error

    def do_step(self, reply):
        if self.held:
            return Held
        return self.go(self.paper()[self.position][1], reply)

    def go(self, option, reply):
        if reply not in self.arena[self.position][option]:
            return BadReply
        self.position = reply
        return None

    def do_pick(self, option, reply):
        if self.held:
            return Held
        options = self.arena[self.position]
        if option not in range(len(options)) or not set(options[option]) <= self.owned():
            return Lost
        return self.go(option, reply)

    def do_hold(self):
        if self.held:
            return Held
        self.held = True
        return None

    def do_resume(self):
        if not self.held:
            return NotHeld
        self.held = False
        return None

    def do_move(self, position):
        if position not in range(len(self.arena)):
            return NoPosition
        self.position = position
        return None if position in self.owned() else Lost

    def do_change(self, position, options):
        many = len(self.arena)
        if position not in range(many):
            return NoPosition
        for option in options:
            if option == () or option != tuple(sorted(set(option))) or option[0] < -1 or option[-1] >= many:
                return InvalidArena
        self.arena = self.arena[:position] + (options,) + self.arena[position + 1:]
        return None if self.position in self.owned() else Lost

    def do_keep(self, keep):
        if keep != tuple(sorted(set(keep))) or not set(keep) <= set(range(len(self.arena))):
            return InvalidGoal
        self.keep = keep
        return None if self.position in self.owned() else Lost


def some_deed(chance, loop):
    """A deed, more often right than wrong."""
    arena = loop.arena()
    many = len(arena)
    here = arena[loop.position()]
    near = range(-2, many + 2)
    kind = chance.randrange(13)
    if kind < 4:
        return ("step", chance.choice(here[loop.paper()[loop.position()][1]] + (chance.choice(near),)))
    if kind < 7:
        option = chance.randint(-1, len(here))
        right = here[option] if 0 <= option < len(here) else ()
        return ("pick", option, chance.choice(right * 3 + (chance.choice(near),)))
    if kind == 7:
        return chance.choice((("hold",), ("resume",), ("resume",)))
    if kind == 8:
        return ("move", chance.choice(near))
    if kind < 11:
        options = tuple(tuple(sorted({chance.randint(-1, many - 1) for _ in range(chance.randint(1, 2))}))
                        for _ in range(chance.randint(0, 4)))
        if chance.random() < 0.1:
            options += (chance.choice(((), (1, 0), (0, 0), (many,), (-2,))),)
        return ("change", chance.choice(near), options)
    keep = tuple(at for at in range(many) if chance.random() < 0.8)
    if chance.random() < 0.1:
        keep += (chance.choice((-1, 0, many)),)
    return ("keep", keep)


class LongRows(LoopTests):
    def begun(self, seed, times, most_positions=7):
        """Loops, one for each arena, from a position that the controller owns."""
        chance = random.Random(seed)
        for arena, goal in some_games(seed, times, most_positions):
            if goal[0] == "stay":
                owned = oracles.stay_owned(arena, goal[1])
                if owned:
                    yield chance, arena, goal[1], chance.choice(sorted(owned))

    def test_against_the_document(self):
        counts = {}
        for chance, arena, keep, start in self.begun(71, 400):
            loop, model = Loop(arena, keep, start), Model(arena, keep, start)
            for _ in range(40):
                deed = some_deed(chance, loop)
                error = model.do(deed)
                if error is None:
                    self.assertEqual(loop.do(deed), model.position)
                else:
                    self.raises(error, loop.do, deed)
                self.assertEqual(state_of(loop), model.state())
                counts[deed[0], error] = counts.get((deed[0], error), 0) + 1
            again = replayed(arena, keep, start, loop.journal())
            self.assertEqual(state_of(again), state_of(loop))
        # Each deed, and each error that it may raise.
        told = {
            "step": (Held, BadReply), "pick": (Held, Lost, BadReply), "hold": (Held,), "resume": (NotHeld,),
            "move": (NoPosition, Lost), "change": (NoPosition, InvalidArena, Lost), "keep": (InvalidGoal, Lost),
        }
        self.assertEqual(set(counts), {(word, error) for word in told for error in told[word] + (None,)})
        self.assertGreater(min(counts.values()), 10)

    def test_never_leaves(self):
        for chance, arena, keep, start in self.begun(72, 120):
            loop = Loop(arena, keep, start)
            for _ in range(100):
                try:
                    loop.do(some_deed(chance, loop))
                except ControlError:
                    pass
                self.assertIn(loop.position(), loop.keep())
                sides = owners(loop.arena(), ("stay", loop.keep()))
                self.assertEqual(sides[loop.position()], "controller")

    def test_long_plays_by_the_controller_and_by_the_shield(self):
        for chance, arena, keep, start in self.begun(73, 150):
            loop = Loop(arena, keep, start)
            safe = shield(arena, keep)
            for _ in range(100):
                here = loop.position()
                self.assertIn(here, keep)
                if chance.random() < 0.5:
                    loop.do(("step", chance.choice(arena[here][loop.paper()[here][1]])))
                else:
                    option = chance.choice(safe[here])
                    loop.do(("pick", option, chance.choice(arena[here][option])))
            self.assertEqual(len(loop.journal()), 100)

    def test_a_great_arena(self):
        whole = tuple(range(200))
        arena = ((whole[:150], whole[:100], whole) * 20,) * 150 + ((whole,),) * 49 + ((),)
        loop = Loop(arena, whole[:180], 7)
        for at in range(100):
            self.assertEqual(loop.do(("step", at)), at)
            self.assertEqual(loop.do(("pick", 58, 99 - at)), 99 - at)
        self.refuses(loop, Lost, ("pick", 59, 0))
        self.refuses(loop, BadReply, ("pick", 58, 100))
        self.does(loop, ("change", 199, ((0,),)), 0)
        self.does(loop, ("keep", whole), 0)
        self.does(loop, ("pick", 59, 199), 199)


if __name__ == "__main__":
    unittest.main()
