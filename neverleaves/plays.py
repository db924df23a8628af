"""Plays: with given picks of both sides, and by the labels of a paper."""

from neverleaves.labels import has_option, is_end


def play_on(arena, start, options, replies):
    """The positions of a play with these option indexes and these replies."""
    positions = [start]
    for index, reply in zip(options, replies):
        here = arena[positions[-1]]
        if not 0 <= index < len(here) or reply not in here[index]:
            break
        positions.append(reply)
        if reply == -1:
            break
    return tuple(positions)


def follow(arena, paper, start, picks):
    """The positions of a play in which the owner of each position plays by its label."""
    positions = [start]
    for pick in picks:
        label = paper[positions[-1]]
        options = arena[positions[-1]]
        if is_end(label) or options == ():
            break
        positions.append(_next_by(label, options, pick))
        if positions[-1] == -1:
            break
    return tuple(positions)


def _next_by(label, options, pick):
    """Where a step leads: its owner plays by the label, and the other side by the pick."""
    if has_option(label):
        successors = options[label[-1]]
        return successors[pick % len(successors)]
    return label[-1][pick % len(options)]
