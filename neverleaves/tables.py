"""Tables: which input a strategy applies in each state of a plant, and runs by them."""

from neverleaves.plants import inputs_of, next_state, states_of


def table_of(plant, strategy):
    """Pairs of each state and the input that the strategy picks there, or None."""
    return tuple([(state, _input_in(plant, state, index)) for state, index in zip(states_of(plant), strategy)])


def _input_in(plant, state, index):
    return None if index == -1 else inputs_of(plant, state)[index]


def run(plant, table, state, replies):
    """The states of a run by a table, with None at its end if the plant leaves."""
    moves = {place: move for place, move in table}
    states = [state]
    for reply in replies:
        move = moves[states[-1]]
        if move is None:
            break
        states.append(next_state(plant, states[-1], move, reply))
        if states[-1] is None:
            break
    return tuple(states)
