"""The least measures of positions for a goal of colours.

They are found entry by entry, the one of the greatest colour first: each entry parts the
positions with equal entries before it. This tells the same as lifting measures again and
again, which may take as many lifts as there are measures.
"""

from neverleaves.colouring import settle
from neverleaves.forcing import DISTURBANCE, forces


def entries_from(colour, greatest, side):
    """How many entries, of colours from this one to the greatest, the measures of a side have.

    These are the other side's colours: the odd ones for the controller, the even ones for the disturbance.
    """
    return (greatest + 1 + side) // 2 - (colour + side) // 2


def least_measures(arena, colours, side, owned):
    """A dict with the least measures of the positions that a side owns."""
    measures = {at: () for at in owned}
    # Groups of positions with equal measures, in ascending order.
    groups = [owned]
    for colour in range(max(colours, default=0), -1, -1):
        if colour % 2 == side:
            continue
        less = [False] * len(arena) + [side == DISTURBANCE]
        parts = []
        for group in groups:
            entries = _entries_in(arena, colours, side, colour, group, less)
            for at in group:
                measures[at] = measures[at] + (entries[at],)
                less[at] = True
            for entry in sorted(set(list(entries.values()))):
                parts.append([at for at in group if entries[at] == entry])
        groups = parts
    return measures


def _entries_in(arena, colours, side, colour, group, less):
    """A dict with the entries for a colour of a group of positions.

    Their entries for greater colours are equal, and those of the positions marked in `less` are less.
    """
    if colour not in [colours[at] for at in group]:
        return {at: 0 for at in group}
    entries = {at: 0 for at in group if colours[at] > colour or _is_ended(arena[at])}
    marks = list(less)
    for at in entries:
        marks[at] = True
    entry = 0
    # Each position of the group can be won, so each round finds more of them.
    while len(entries) < len(group):
        open_ones = [at for at in group if colours[at] < colour and not marks[at]]
        for at in _won_without(arena, colours, side, open_ones, marks):
            entries[at] = entry
            marks[at] = True
        entry += 1
        passed = [at for at in group if not marks[at] and forces(side, arena[at], marks)]
        for at in passed:
            entries[at] = entry
            marks[at] = True
    return entries


def _is_ended(options):
    """True if the disturbance has won at once, stuck or out, so that nothing is counted from there."""
    return all([option[0] == -1 for option in options])


def _won_without(arena, colours, side, open_ones, marks):
    """Those of the open positions that the side owns if of the others only the marked ones are its own."""
    owners = [side if mark else 1 - side for mark in marks]
    for at in open_ones:
        owners[at] = None
    owners = settle(arena, colours, owners)
    return [at for at in open_ones if owners[at] == side]
