"""Least beats: how few steps there are at most from home to home.

A beat k is kept with some of the home positions alone: from each of them the controller can come
to one of them again with at most k other positions between. So those from which this takes longest
are left out, again and again: the ways of the others do not become shorter, but the longest way
that is left may be shorter than before.
"""

from neverleaves.forcing import CONTROLLER, steps_to


def least_beats(arena, home):
    """The least beat from each position, None where there is none."""
    beats = [None] * len(arena)
    # No beat is this great: a way has each position but a home one at most once.
    limit = len(arena)
    kept = home
    while kept:
        ranks = _ranks_to(arena, home, kept)
        needs = {at: _need(arena[at], ranks, len(arena)) for at in kept}
        beat = max(list(needs.values()))
        if beat < limit:
            _take_lesser(beats, ranks, beat)
            limit = beat
        # For a lesser beat than the limit these are of no use.
        kept = [at for at in kept if needs[at] < limit]
    return tuple(beats)


def _ranks_to(arena, home, kept):
    """A dict with the least steps to a kept home position, with no other home position on the way."""
    marks = [at in kept for at in range(len(arena))] + [False]
    ranks = steps_to(arena, CONTROLLER, marks, [at for at in range(len(arena)) if at not in home])
    for at in kept:
        ranks[at] = 0
    return ranks


def _need(options, ranks, too_many):
    """How many other positions the best option has at most on its way to a kept home position."""
    return min([max([ranks.get(after, too_many) for after in option]) for option in options], default=too_many)


def _take_lesser(beats, ranks, beat):
    """Lower what this list has for the positions with ranks, where this beat and the way to it are less."""
    for at in ranks:
        longest = max(beat, ranks[at])
        if beats[at] is None or longest < beats[at]:
            beats[at] = longest
