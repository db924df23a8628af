"""Which labels of successors fit to the label of a position: for the judge and for the told papers."""

from neverleaves.forcing import CONTROLLER, DISTURBANCE
from neverleaves.labels import has_option
from neverleaves.measures import entries_from


class Fitting:
    """Labels for the positions of an arena with a goal. Their kinds and numbers are read, not their picks."""

    def __init__(self, arena, goal, labels):
        self.arena = arena
        self.told = goal[1]
        self.labels = labels
        self.greatest = max(goal[1], default=0) if goal[0] == "colours" else 0

    def fits(self, at, index, after):
        """True if an option of a position may lead to this successor of it, by the labels of both."""
        mine = self.labels[at]
        if after == -1:
            return not has_option(mine)
        other = self.labels[after]
        if mine[0] != other[0]:
            return False
        if mine[0] in ("holds", "away"):
            return True
        if mine[0] in ("comes", "driven"):
            return other[1] < mine[1]
        if mine[0] in ("even", "odd"):
            return self._measures_fit(mine, other, self.told[at])
        return other[1] <= mine[1] + self._change(mine[0], self.told[at][index])

    def all_fit(self, at, index):
        """True if the controller may pick this option, by the labels of all its successors."""
        for after in self.arena[at][index]:
            if not self.fits(at, index, after):
                return False
        return True

    def _measures_fit(self, mine, other, colour):
        side = CONTROLLER if mine[0] == "even" else DISTURBANCE
        many = entries_from(colour, self.greatest, side)
        if colour % 2 == side:
            return other[1][:many] <= mine[1][:many]
        return other[1][:many] < mine[1][:many]

    def _change(self, kind, gain):
        """How much more a credit or a load may be behind a pick with this gain."""
        return gain if kind == "keeps" else -(len(self.arena) * gain + 1)
