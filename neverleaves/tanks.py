"""The least credits and loads of positions for a goal of a tank.

Lifting them by 1 again and again may take very long. So instead the side that wants to do with
little makes picks, the least values for these picks are found, and then it makes better picks
for these values, until there are none. Lists of values have one item for each position and one
more at the index -1: a value that is too great, for giving up.
"""


def least_credits(arena, gains):
    """The least credit of each position, None where there is none."""
    return _least_values(OptionPicks(arena, _scaled(gains)))


def least_loads(arena, gains):
    """The least load of each position, None where there is none."""
    many = len(arena)
    losses = [[-(many * gain + 1) for gain in row] for row in gains]
    return _least_values(ReplyPicks(arena, _scaled(losses)))


def _scaled(gains):
    """Gains of which those of a ring never add to 0, but to more where they did so.

    With such gains values for which there are no better picks are the least ones. A way without
    a ring has fewer steps than the factor, so that a value is found again from the scaled one.
    """
    factor = len(gains) + 1
    return [[gain * factor + 1 for gain in row] for row in gains]


class OptionPicks:
    """Picks of the controller: an option at each position, or to give up, as at first."""

    def __init__(self, arena, gains):
        self.arena = arena
        self.gains = gains
        self.picked = [None] * len(arena)

    def rows(self):
        """For each position, what the other side picks from: pairs of a gain and successors."""
        rows = []
        for index, options, gains in zip(self.picked, self.arena, self.gains):
            rows.append([(0, (-1,))] if index is None else [(gains[index], options[index])])
        return rows

    def improve(self, values):
        """Make better picks for these values. True if there are any."""
        improved = False
        for at, options in enumerate(self.arena):
            least = values[at]
            for index, option in enumerate(options):
                value = max(0, max([values[after] for after in option]) - self.gains[at][index])
                if value < least:
                    least = value
                    self.picked[at] = index
                    improved = True
        return improved


class ReplyPicks:
    """Picks of the disturbance: a successor of each option, or to give up, as at first.

    Options with which the play may be out are left out: they cost the disturbance nothing.
    """

    def __init__(self, arena, gains):
        self.options = []
        self.gains = []
        for options, row in zip(arena, gains):
            self.options.append([option for option in options if option[0] != -1])
            self.gains.append([gain for gain, option in zip(row, options) if option[0] != -1])
        self.picked = [[-1] * len(options) for options in self.options]

    def rows(self):
        """For each position, what the other side picks from: pairs of a gain and successors."""
        rows = []
        for picked, gains in zip(self.picked, self.gains):
            rows.append([(gain, (after,)) for gain, after in zip(gains, picked)])
        return rows

    def improve(self, values):
        """Make better picks for these values. True if there are any."""
        better = []
        for picked, options in zip(self.picked, self.options):
            better.append([_better(values, after, option) for after, option in zip(picked, options)])
        improved = better != self.picked
        self.picked = better
        return improved


def _better(values, picked, option):
    """The successor of an option with the least value, but the picked one if none has less."""
    for after in option:
        if values[after] < values[picked]:
            picked = after
    return picked


def _least_values(picks):
    """The least value of each position, None where there is none, for picks with scaled gains."""
    many = len(picks.gains)
    # No value is more than this, and who gives up at last has more all the same.
    most = many * max([abs(gain) for row in picks.gains for gain in row], default=0)
    given_up = 2 * most + 1
    values = values_of_rows(picks.rows(), given_up)
    while picks.improve(values):
        values = values_of_rows(picks.rows(), given_up)
    return [-(-value // (many + 1)) if value <= most else None for value in values[:-1]]


def values_of_rows(rows, given_up):
    """The least values from 0 that are at least those of all successors less the gain.

    None if there are none, because the gains of some ring add to less than 0.
    """
    values = [0] * len(rows) + [given_up]
    order = list(range(len(rows)))
    for _ in range(len(rows) + 1):
        changed = False
        # Long ways mostly lead up or down, so both directions are taken in turn.
        order.reverse()
        for at in order:
            value = max([max([values[after] for after in option]) - gain for gain, option in rows[at]], default=0)
            if value > values[at]:
                values[at] = value
                changed = True
        if not changed:
            return values
    return None
