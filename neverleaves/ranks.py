"""The least ranks of positions for the goals of staying and of coming home."""

from neverleaves.forcing import CONTROLLER, DISTURBANCE, steps_to


def stay_ranks(arena, keep):
    """The least rank of each position that the disturbance owns for staying in keep; None for the others."""
    return _ranks_to(arena, DISTURBANCE, [at not in keep for at in range(len(arena))])


def come_ranks(arena, home):
    """The least rank of each position that the controller owns for coming home; None for the others."""
    return _ranks_to(arena, CONTROLLER, [at in home for at in range(len(arena))])


def _ranks_to(arena, side, marks):
    steps = steps_to(arena, side, marks + [side == DISTURBANCE], list(range(len(arena))))
    return [0 if mark else steps.get(at) for at, mark in enumerate(marks)]
