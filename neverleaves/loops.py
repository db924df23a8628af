"""Loops: a plant that is kept at positions of the controller, whatever replies and deeds come."""

from neverleaves.arenas import check_arena, check_goal
from neverleaves.errors import BadReply, Held, Lost, NoPosition, NotHeld
from neverleaves.labels import has_option
from neverleaves.shields import shield
from neverleaves.solving import told_paper


class Loop:
    """An arena, a goal of staying, and a position of the controller at which the plant stands."""

    def __init__(self, arena, keep, start):
        self._held = False
        self._journal = []
        self._settle(arena, keep, start)

    def do(self, deed):
        """Carry out a deed and return the position at which the plant stands then.

        A deed that raises an error has changed nothing.
        """
        word = deed[0]
        if word == "step":
            self._step(deed[1])
        elif word == "pick":
            self._pick(deed[1], deed[2])
        elif word == "hold":
            self._refuse_held()
            self._held = True
        elif word == "resume":
            self._resume()
        elif word == "move":
            _check_stand(self._paper, deed[1])
            self._position = deed[1]
        elif word == "change":
            self._change(deed[1], deed[2])
        else:
            check_goal(self._arena, ("stay", deed[1]))
            self._settle(self._arena, deed[1], self._position)
        self._journal.append(deed)
        return self._position

    def position(self):
        """The position at which the plant stands."""
        return self._position

    def is_held(self):
        """True if the loop is held."""
        return self._held

    def arena(self):
        """The arena, with all changes."""
        return self._arena

    def keep(self):
        """The positions of the goal."""
        return self._keep

    def paper(self):
        """The told paper for the arena and the goal."""
        return self._paper

    def journal(self):
        """The deeds that were carried out, in order."""
        return tuple(self._journal)

    def _settle(self, arena, keep, position):
        """Take a right arena, the positions of a right goal, and where the plant stands, if it may stand there."""
        paper = told_paper(arena, ("stay", keep))
        _check_stand(paper, position)
        self._arena = arena
        self._keep = keep
        self._paper = paper
        self._shield = shield(arena, keep)
        self._position = position

    def _refuse_held(self):
        if self._held:
            raise Held("the loop is held")

    def _resume(self):
        if not self._held:
            raise NotHeld("the loop is not held")
        self._held = False

    def _step(self, reply):
        self._refuse_held()
        self._go(self._paper[self._position][1], reply)

    def _pick(self, option, reply):
        self._refuse_held()
        if option not in self._shield[self._position]:
            raise Lost("the option may lead to a position that the controller does not own")
        self._go(option, reply)

    def _go(self, option, reply):
        """Go to a successor of an option of the position."""
        if reply not in self._arena[self._position][option]:
            raise BadReply("the reply is not a successor of the option")
        self._position = reply

    def _change(self, position, options):
        _check_position(self._arena, position)
        arena = self._arena[:position] + (options,) + self._arena[position + 1:]
        check_arena(arena)
        self._settle(arena, self._keep, self._position)


def _check_position(rows, position):
    """Raise NoPosition if there is no such position; there is one row for each."""
    if not 0 <= position < len(rows):
        raise NoPosition("there is no such position")


def _check_stand(paper, position):
    """Raise NoPosition or Lost if a plant may not stand at a position."""
    _check_position(paper, position)
    if not has_option(paper[position]):
        raise Lost("the position would belong to the disturbance")


def replayed(arena, keep, start, journal):
    """The loop made anew, with the deeds of the journal carried out."""
    loop = Loop(arena, keep, start)
    for deed in journal:
        loop.do(deed)
    return loop
