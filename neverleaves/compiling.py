"""From plants to arenas: the arena of a plant, and its positions and gains."""

from neverleaves.expressions import holds, value_of
from neverleaves.plants import inputs_of, next_state, replies_of, states_of, values_by_name


def position_of(plant, state):
    """The number of the position of a state."""
    position = 0
    for (name, low, high), number in zip(plant[0], state):
        position = position * (high - low + 1) + number - low
    return position


def arena_of(plant):
    """The arena of a valid plant."""
    replies = replies_of(plant)
    return tuple([_options_of(plant, state, replies) for state in states_of(plant)])


def _options_of(plant, state, replies):
    """The options of the position of a state."""
    return tuple([_successors_of(plant, state, move, replies) for move in inputs_of(plant, state)])


def _successors_of(plant, state, move, replies):
    """The successors for an input: each position once, in ascending order."""
    found = {}
    for reply in replies:
        after = next_state(plant, state, move, reply)
        found[-1 if after is None else position_of(plant, after)] = True
    return tuple(sorted(found))


def positions_where(plant, condition):
    """The positions whose states fulfil a valid condition, in ascending order."""
    states = states_of(plant)
    return tuple([at for at, state in enumerate(states) if holds(condition, values_by_name(plant[0], state))])


def gains_of(plant, expression):
    """For each position a tuple with the value of a valid expression for each option."""
    return tuple([_gains_in(plant, expression, state) for state in states_of(plant)])


def _gains_in(plant, expression, state):
    """The gains of the options of the position of a state."""
    ranges = plant[0] + plant[1]
    moves = inputs_of(plant, state)
    return tuple([value_of(expression, values_by_name(ranges, state + move)) for move in moves])
