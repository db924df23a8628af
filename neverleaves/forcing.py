"""What one of the two sides can force, step by step.

Lists of marks have one item for each position and one more for being out, which is at the index -1.
"""

# The side that likes a colour is the colour modulo 2.
CONTROLLER = 0
DISTURBANCE = 1


def forces(side, options, marks):
    """True if the side can make the next step from a position with these options lead to a marked one.

    A position without options is as good as marked for the disturbance.
    """
    if side == CONTROLLER:
        return any(_all_marked(option, marks) for option in options)
    return all(_some_marked(option, marks) for option in options)


def _all_marked(option, marks):
    for after in option:
        if not marks[after]:
            return False
    return True


def _some_marked(option, marks):
    for after in option:
        if marks[after]:
            return True
    return False


def steps_to(arena, side, marks, among):
    """From which positions the side can force a play to a marked one, and in how many steps.

    A dict with the least number of steps for each such position that is one of `among` and is not
    marked itself. The play passes no others on its way.
    """
    reached = list(marks)
    steps = {}
    many = 0
    grows = True
    while grows:
        many += 1
        found = [at for at in among if not reached[at] and forces(side, arena[at], reached)]
        for at in found:
            steps[at] = many
            reached[at] = True
        grows = found != []
    return steps
