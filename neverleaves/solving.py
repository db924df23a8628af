"""The told papers, and who owns the positions."""

from neverleaves.colouring import colour_owners
from neverleaves.fitting import Fitting
from neverleaves.forcing import CONTROLLER, DISTURBANCE
from neverleaves.labels import has_option, is_end
from neverleaves.measures import least_measures
from neverleaves.ranks import come_ranks, stay_ranks
from neverleaves.tanks import least_credits, least_loads


def told_paper(arena, goal):
    """The told paper of an arena and a goal."""
    drafts = _drafts(arena, goal)
    fitting = Fitting(arena, goal, drafts)
    return tuple([draft + (_pick(fitting, at),) for at, draft in enumerate(drafts)])


def owners(arena, goal):
    """Who owns each position, "controller" or "disturbance"."""
    return tuple(["controller" if has_option(draft) else "disturbance" for draft in _drafts(arena, goal)])


def _drafts(arena, goal):
    """The labels of the told paper, without the option or the replies that stand last in each."""
    kind, told = goal
    if kind == "stay":
        ranks = stay_ranks(arena, told)
        return [("holds",) if rank is None else ("driven", rank) for rank in ranks]
    if kind == "come":
        ranks = come_ranks(arena, told)
        return [("away",) if rank is None else ("comes", rank) for rank in ranks]
    if kind == "colours":
        return _colour_drafts(arena, told)
    return _tank_drafts(arena, told)


def _tank_drafts(arena, gains):
    drafts = []
    for credit, load in zip(least_credits(arena, gains), least_loads(arena, gains)):
        drafts.append(("drained", load) if credit is None else ("keeps", credit))
    return drafts


def _colour_drafts(arena, colours):
    sides = colour_owners(arena, colours)
    drafts = [()] * len(arena)
    for kind, side in (("even", CONTROLLER), ("odd", DISTURBANCE)):
        owned = [at for at in range(len(arena)) if sides[at] == side]
        measures = least_measures(arena, colours, side, owned)
        for at in owned:
            drafts[at] = (kind, measures[at])
    return drafts


def _pick(fitting, at):
    """The told option or the told replies of a position."""
    draft = fitting.labels[at]
    options = fitting.arena[at]
    if has_option(draft):
        return -1 if is_end(draft) else _option(fitting, at)
    return () if is_end(draft) else tuple([_reply(fitting, at, index) for index in range(len(options))])


def _option(fitting, at):
    """The least option that the controller may pick; there is one at a position of its own."""
    index = 0
    while not fitting.all_fit(at, index):
        index += 1
    return index


def _reply(fitting, at, index):
    """The told reply to an option of a position of the disturbance."""
    right = [after for after in fitting.arena[at][index] if fitting.fits(at, index, after)]
    if fitting.labels[at][0] == "driven" and right[0] != -1:
        return min([(fitting.labels[after][1], after) for after in right])[1]
    return right[0]
