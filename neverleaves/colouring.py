"""Who owns the positions for a goal of colours.

Lists of owners have one item for each position, a side or None, and one more for being out,
which is at the index -1.
"""

from neverleaves.forcing import CONTROLLER, DISTURBANCE, steps_to


def colour_owners(arena, colours):
    """The side that owns each position."""
    return settle(arena, colours, [None] * len(arena) + [DISTURBANCE])


def settle(arena, colours, owners):
    """The owners with a side in the place of each None.

    It is the side that can force a play from there to positions that are its own already, or
    else can keep it among the others so that the greatest colour that comes again and again is
    one that it likes.
    """
    settled = list(owners)
    _take_near(arena, settled)
    while None in settled:
        open_ones = [at for at, owner in enumerate(settled) if owner is None]
        top = max([colours[at] for at in open_ones])
        side = top % 2
        # What would the other side own even if this one owned all positions of the greatest
        # colour? That leaves one colour less to settle.
        guess = list(settled)
        for at in open_ones:
            if colours[at] == top:
                guess[at] = side
        guess = settle(arena, colours, guess)
        lost = [at for at in open_ones if guess[at] != side]
        for at in lost or open_ones:
            settled[at] = guess[at]
        _take_near(arena, settled)
    return settled


def _take_near(arena, owners):
    """Give each side, in this list, what it can force to its own positions."""
    for side in (CONTROLLER, DISTURBANCE):
        open_ones = [at for at, owner in enumerate(owners) if owner is None]
        marks = [owner == side for owner in owners]
        for at in steps_to(arena, side, marks, open_ones):
            owners[at] = side
