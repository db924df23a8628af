"""Plain searches for what the document says of beats, costs, means, known sets and delays.

They are slow and for small arenas. Nothing here uses the package.
"""

import itertools
from fractions import Fraction

from tests.oracles import all_credits, stay_owned


def keeps_beat(arena, home, beat):
    """The positions from which some controller keeps a beat.

    A state is a position with the number of positions that were not at home, one after the
    other, up to this one. The controller keeps the beat if it can stay in states that have at
    most this number.
    """
    def state(at, before):
        return (at, 0 if at in home else before + 1)

    states = {(at, many) for at in range(len(arena)) for many in range(beat + 1) if (many == 0) == (at in home)}
    while True:
        fewer = {
            (at, many) for at, many in states
            if any(all(after != -1 and state(after, many) in states for after in option) for option in arena[at])
        }
        if fewer == states:
            return {at for at in range(len(arena)) if state(at, 0) in states}
        states = fewer


def least_beats(arena, home):
    """The least beat from each position; a beat greater than the number of positions is looked for, too."""
    beats = [None] * len(arena)
    for beat in reversed(range(len(arena) + 2)):
        for at in keeps_beat(arena, home, beat):
            beats[at] = beat
    return tuple(beats)


def comes_home_with(arena, home, costs, most):
    """The pairs of a position and an amount, up to the most, with which home is surely reached from there."""
    reached = {(at, amount) for at in home for amount in range(most + 1)}
    while True:
        more = {
            (at, amount) for at in range(len(arena)) for amount in range(most + 1)
            if (at, amount) not in reached and any(
                all((after, amount - cost) in reached for after in option)
                for option, cost in zip(arena[at], costs[at]))
        }
        if not more:
            return reached
        reached |= more


def least_costs(arena, home, costs, most):
    """The least cost home of each position, None where there is none up to the most."""
    reached = comes_home_with(arena, home, costs, most)
    return tuple(
        min([amount for place, amount in reached if place == at], default=None) for at in range(len(arena)))


def costs_in_rounds(arena, home, costs):
    """The same, for costs of any size: the least cost of coming home in at most so many steps."""
    far = 1 + sum(max(row, default=0) for row in costs)
    found = [0 if at in home else far for at in range(len(arena))]
    for _ in arena:
        before = found + [far]
        for at, options in enumerate(arena):
            if at not in home:
                found[at] = min([far] + [cost + max(before[after] for after in option)
                                         for option, cost in zip(options, costs[at])])
    return tuple(None if cost >= far else cost for cost in found)


def tank_owned(arena, gains, p, q):
    """The positions that the controller owns for the tank with the gains q * g - p."""
    credits_ = all_credits(arena, tuple(tuple(q * gain - p for gain in row) for row in gains))
    return {at for at, credit in enumerate(credits_) if credit is not None}


def next_fraction(mean, most):
    """The least fraction greater than a mean, of those whose lower part is at most this, as a pair."""
    p, q = mean
    greater = min(Fraction(p * lower // q + 1, lower) for lower in range(1, most + 1))
    return greater.numerator, greater.denominator


def ring_means(arena, gains, strategy, start):
    """The mean of each ring that a play by a strategy from the start may go round."""
    found = []

    def go(way, total):
        at = way[-1]
        for after in arena[at][strategy[at]]:
            here = total + [gains[at][strategy[at]]]
            if after in way:
                ring = here[way.index(after):]
                found.append(Fraction(sum(ring), len(ring)))
            else:
                go(way + [after], here)

    go([start], [])
    return found


def means_by_strategies(arena, gains):
    """The mean of each position: that of the best strategy against its worst ring."""
    owned = stay_owned(arena, tuple(range(len(arena))))
    safe = [[k for k, option in enumerate(options) if set(option) <= owned] if at in owned else [-1]
            for at, options in enumerate(arena)]
    best = [None] * len(arena)
    for strategy in itertools.product(*safe):
        for at in owned:
            worst = min(ring_means(arena, gains, strategy, at))
            if best[at] is None or worst > best[at]:
                best[at] = worst
    return tuple(None if mean is None else (mean.numerator, mean.denominator) for mean in best)


def parted(positions, readings):
    """Positions parted by their readings, in ascending order of these."""
    return [tuple(sorted(at for at in positions if readings[at] == reading))
            for reading in sorted({readings[at] for at in positions})]


def after_known(arena, known, index):
    return {after for at in known for after in arena[at][index]}


def known_arena(arena, readings, starts):
    """The known arena and its known sets, found in the told order."""
    order = parted(starts, readings)
    done = 0
    while done < len(order):
        known = order[done]
        for index in range(min(len(arena[at]) for at in known)):
            for one in parted(after_known(arena, known, index) - {-1}, readings):
                if one not in order:
                    order.append(one)
        done += 1
    rows = []
    for known in order:
        options = []
        for index in range(min(len(arena[at]) for at in known)):
            after = after_known(arena, known, index)
            numbers = {order.index(one) for one in parted(after - {-1}, readings)}
            options.append(tuple(sorted(numbers | (after & {-1}))))
        rows.append(tuple(options))
    return tuple(rows), tuple(order)


def knows(arena, keep, readings, starts):
    """True if the play can be kept in keep for more steps than there are sets of positions."""
    alive = {}

    def lives(known, steps):
        if not set(known) <= set(keep):
            return False
        if steps == 0:
            return True
        if (known, steps) not in alive:
            alive[known, steps] = any(
                -1 not in after_known(arena, known, index)
                and all(lives(one, steps - 1) for one in parted(after_known(arena, known, index), readings))
                for index in range(min(len(arena[at]) for at in known)))
        return alive[known, steps]

    return all(lives(known, 2 ** len(arena)) for known in parted(starts, readings))


def delayed_arena(arena, delay):
    """The delayed arena and its pairs."""
    most = max((len(options) for options in arena), default=0)
    pairs = [(at, queue) for at in range(len(arena)) for queue in itertools.product(range(most), repeat=delay)]
    numbers = {pair: number for number, pair in enumerate(pairs)}
    rows = []
    for at, queue in pairs:
        options = []
        for pick in range(most):
            longer = queue + (pick,)
            if longer[0] >= len(arena[at]):
                options.append((-1,))
            else:
                options.append(tuple(sorted(
                    -1 if after == -1 else numbers[after, longer[1:]] for after in arena[at][longer[0]])))
        rows.append(tuple(options))
    return tuple(rows), tuple(pairs)
