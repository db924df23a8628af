"""The shield of a goal of staying: which options keep it."""

from neverleaves.ranks import stay_ranks


def shield(arena, keep):
    """For each position the indexes of the options whose successors all belong to the controller."""
    # Out, at the index -1, is never the controller's.
    owned = [rank is None for rank in stay_ranks(arena, keep)] + [False]
    return tuple([_safe_indexes(options, owned) if owned[at] else () for at, options in enumerate(arena)])


def _safe_indexes(options, owned):
    """The indexes of the options that have only owned successors."""
    return tuple([index for index, option in enumerate(options) if all([owned[after] for after in option])])
