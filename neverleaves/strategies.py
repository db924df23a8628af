"""Given controllers: whether a strategy of an arena keeps a goal, and how it is broken.

Once the strategy picks, only the disturbance is left to pick: each position has just one tuple
of successors, `()` where a play by the strategy is lost.
"""

from neverleaves.labels import has_option, is_end
from neverleaves.ranks import come_ranks
from neverleaves.tanks import values_of_rows


def strategy_of(paper):
    """The strategy of a tuple of labels."""
    return tuple([label[-1] if has_option(label) and not is_end(label) else -1 for label in paper])


def _successors_by(arena, strategy):
    """The successors of each position by the strategy, and at the index -1 those of being out: none."""
    return [() if index == -1 else options[index] for index, options in zip(strategy, arena)] + [()]


def _least_rows(successors, starts):
    """The least of the shortest rows to each place that is met from one of the starts.

    A dict from places to rows, in the order of their lengths, and of the rows where these are equal.
    The starts stand in ascending order, and each row begins with a start.
    """
    rows = {start: (start,) for start in starts}
    waiting = list(starts)
    while waiting:
        found = []
        for place in waiting:
            for after in successors[place]:
                if after not in rows:
                    rows[after] = rows[place] + (after,)
                    found.append(after)
        waiting = found
    return rows


def least_bad_row(arena, keep, strategy, start):
    """The least bad row of a strategy for staying in keep, or None if there is none."""
    successors = _successors_by(arena, strategy)
    rows = _least_rows(successors, (start,))
    for place in rows:
        if successors[place] == () or place not in keep:
            return rows[place][1:]
    return None


def home_steps(arena, home, strategy, start):
    """The greatest number of steps to home, or None if the strategy misses it."""
    options = [() if index == -1 else (row[index],) for index, row in zip(strategy, arena)]
    return come_ranks(options, home)[start]


def bad_ring(arena, colours, strategy, start):
    """A row and a ring with which a goal of colours is broken, or None if there are none."""
    successors = _successors_by(arena, strategy)
    rows = _least_rows(successors, (start,))
    for place in rows:
        if successors[place] == ():
            return rows[place][1:], ()
    for place in rows:
        if colours[place] % 2 == 1:
            ring = _ring_below(successors, colours, place)
            if ring is not None:
                return rows[place][1:], ring
    return None


def _ring_below(successors, colours, top):
    """A ring from a position back to it with no greater colour than its own, or None."""
    most = colours[top]
    low = [tuple([after for after in option if colours[after] <= most]) for option in successors]
    return _least_rows(low, low[top]).get(top)


def strategy_credit(arena, gains, strategy, start):
    """The least credit with which a strategy keeps a goal of a tank, or None if there is none."""
    successors = _successors_by(arena, strategy)
    met = _least_rows(successors, (start,))
    if any([successors[place] == () for place in met]):
        return None
    rows = [[] for _ in arena]
    for place in met:
        rows[place] = [(gains[place][strategy[place]], successors[place])]
    values = values_of_rows(rows, 0)
    return None if values is None else values[start]
