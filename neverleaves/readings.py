"""Controllers that see only readings: the sets of positions that they know, as an arena."""

from neverleaves.ranks import stay_ranks


def known_arena(arena, readings, starts):
    """The known arena, and its known sets in their order."""
    sets = _parted(starts, readings)
    numbers = {known: number for number, known in enumerate(sets)}
    known_options = []
    while len(known_options) < len(sets):
        known = sets[len(known_options)]
        options = []
        for index in range(min([len(arena[at]) for at in known])):
            after = _successors_of(arena, known, index)
            following = _parted([at for at in after if at != -1], readings)
            for one in following:
                if one not in numbers:
                    numbers[one] = len(sets)
                    sets.append(one)
            out = [-1] if -1 in after else []
            options.append(tuple(out + sorted([numbers[one] for one in following])))
        known_options.append(tuple(options))
    return tuple(known_options), tuple(sets)


def _successors_of(arena, known, index):
    """Where the play may be after an option of a known set, in ascending order, -1 included."""
    found = {}
    for at in known:
        for after in arena[at][index]:
            found[after] = True
    return sorted(found)


def _parted(positions, readings):
    """Positions in ascending order, parted by their readings, in ascending order of these."""
    parts = {}
    for at in positions:
        parts.setdefault(readings[at], []).append(at)
    return [tuple(parts[reading]) for reading in sorted(parts)]


def can_know(arena, keep, readings, starts):
    """True if a controller that sees only readings can stay in keep from every start position."""
    known, sets = known_arena(arena, readings, starts)
    inside = [number for number, places in enumerate(sets) if all([at in keep for at in places])]
    ranks = stay_ranks(known, inside)
    # The sets that the starts make are the first ones.
    return all([rank is None for rank in ranks[:len(_parted(starts, readings))]])
