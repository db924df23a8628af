"""Least costs home."""


def least_costs(arena, home, costs):
    """The least cost home from each position, None where there is none.

    The positions are told in ascending order of their costs. So the cost of an option is known
    when the last one of its successors is told, and rings that cost nothing never tell themselves.
    """
    leading = _options_to(arena)
    missing = [[len(option) for option in options] for options in arena]
    told = [None] * len(arena)
    found = {at: 0 for at in home}
    while found:
        cost, at = min([(found[place], place) for place in found])
        del found[at]
        told[at] = cost
        for before, index in leading[at]:
            missing[before][index] -= 1
            if missing[before][index] == 0 and told[before] is None:
                whole = cost + costs[before][index]
                found[before] = min(whole, found.get(before, whole))
    return tuple(told)


def _options_to(arena):
    """For each position, the options that have it as a successor: pairs of a position and an index.

    Out has none: an option with which the play may be out always misses a successor.
    """
    leading = [[] for _ in arena]
    for at, options in enumerate(arena):
        for index, option in enumerate(options):
            for after in option:
                if after != -1:
                    leading[after].append((at, index))
    return leading
