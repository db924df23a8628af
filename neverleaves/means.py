"""Means: the gain for each step that the controller can see to in the long run.

A mean is a fraction whose lower part is at most the number n of positions. Two such fractions
are at least `1 / (n * n)` apart, so it is enough to know between which two multiples of this a mean
lies: each round halves the range of multiples in which the mean of each position lies.
"""

from neverleaves.shields import shield
from neverleaves.tanks import least_credits


def means(arena, gains):
    """The mean of each position as a pair in lowest terms, None where there is none."""
    safe = shield(arena, tuple(range(len(arena))))
    options = [[arena[at][index] for index in indexes] for at, indexes in enumerate(safe)]
    parts = len(arena) * len(arena)
    scaled = [[parts * gains[at][index] for index in indexes] for at, indexes in enumerate(safe)]
    lows = _lows(options, scaled)
    return tuple([_fraction(low, parts, len(arena)) if row else None for low, row in zip(lows, options)])


def _lows(options, gains):
    """For each position the greatest integer up to its mean, for gains in the place of its own."""
    least = min([gain for row in gains for gain in row], default=0)
    greatest = max([gain for row in gains for gain in row], default=0)
    lows = [least] * len(options)
    width = 1
    while width <= greatest - least:
        width = width * 2
    while width > 1:
        width = width // 2
        reached = _reaching(options, gains, lows, width)
        for at in reached:
            lows[at] += width
    return lows


def _reaching(options, gains, lows, more):
    """The positions whose mean is at least their low and so much more.

    Positions with equal lows are settled by themselves: the controller does not go to a lesser
    low, and the disturbance not to a greater one.
    """
    arena = []
    changes = []
    for at, row in enumerate(options):
        low = lows[at]
        picked = [index for index, option in enumerate(row) if min([lows[after] for after in option]) == low]
        arena.append([[after for after in row[index] if lows[after] == low] for index in picked])
        changes.append([gains[at][index] - low - more for index in picked])
    return [at for at, credit in enumerate(least_credits(arena, changes)) if credit is not None]


def _fraction(low, parts, most):
    """The fraction from `low / parts` on, but less than one part more, whose lower part is the least."""
    for lower in range(1, most + 1):
        upper = -(-low * lower // parts)
        if upper * parts < (low + 1) * lower:
            return upper, lower
    return None
