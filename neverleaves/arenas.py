"""Arenas and goals: which are right."""

from neverleaves.errors import InvalidArena, InvalidGoal


def check_arena(arena):
    """Raise InvalidArena if the arena is not right."""
    for options in arena:
        for option in options:
            if option == ():
                raise InvalidArena("an option has no successors")
            if not is_ascending(option, -1, len(arena)):
                raise InvalidArena("the successors of an option are not right")


def check_goal(arena, goal):
    """Raise InvalidGoal if the goal is not right for the arena."""
    kind, told = goal
    if kind in ("stay", "come"):
        if not is_ascending(told, 0, len(arena)):
            raise InvalidGoal("the positions are not right")
    elif len(told) != len(arena):
        raise InvalidGoal("there is not one part for each position")
    elif kind == "colours":
        if any([colour < 0 for colour in told]):
            raise InvalidGoal("a colour is less than 0")
    elif any([len(row) != len(options) for row, options in zip(told, arena)]):
        raise InvalidGoal("there is not one gain for each option")


def is_ascending(numbers, low, end):
    """True if the numbers are in ascending order without duplicates, from low up to less than end."""
    least = low
    for number in numbers:
        if not least <= number < end:
            return False
        least = number + 1
    return True
