"""The judge: is a paper right?"""

from neverleaves.fitting import Fitting
from neverleaves.forcing import CONTROLLER, DISTURBANCE
from neverleaves.labels import has_option
from neverleaves.measures import entries_from


def judge(arena, goal, paper):
    """True if the paper is right for the arena and the goal."""
    if len(paper) != len(arena):
        return False
    fitting = Fitting(arena, goal, paper)
    return all([_is_right(fitting, at) for at in range(len(arena))])


def _is_right(fitting, at):
    """True if the label of a position is right."""
    label = fitting.labels[at]
    kind = label[0]
    if kind == "comes" and at in fitting.told:
        return label == ("comes", 0, -1)
    if kind == "driven" and at not in fitting.told:
        return label == ("driven", 0, ())
    if kind == "holds" and at not in fitting.told:
        return False
    if kind == "away" and at in fitting.told:
        return False
    if not _numbers_are_right(fitting, label):
        return False
    if has_option(label):
        return 0 <= label[-1] < len(fitting.arena[at]) and fitting.all_fit(at, label[-1])
    return _replies_are_right(fitting, at, label[-1])


def _numbers_are_right(fitting, label):
    """True if the rank, measure, credit or load of a label is right by itself."""
    kind = label[0]
    if kind in ("comes", "driven"):
        return label[1] >= 1
    if kind in ("keeps", "drained"):
        return label[1] >= 0
    if kind in ("even", "odd"):
        side = CONTROLLER if kind == "even" else DISTURBANCE
        return len(label[1]) == entries_from(0, fitting.greatest, side) and min(label[1], default=0) >= 0
    return True


def _replies_are_right(fitting, at, replies):
    """True if the replies are successors, one of each option, that the disturbance may pick."""
    options = fitting.arena[at]
    if len(replies) != len(options):
        return False
    for index, reply in enumerate(replies):
        if reply not in options[index] or not fitting.fits(at, index, reply):
            return False
    return True
