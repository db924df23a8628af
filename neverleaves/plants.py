"""Plants: which are valid, their states, inputs and replies, and their steps."""

from neverleaves.errors import InvalidExpression, InvalidPlant
from neverleaves.expressions import check_condition, check_expression, holds, names_in, value_of
from neverleaves.words import is_name


def names_of(ranges):
    """The names of variables, inputs or disturbances."""
    return tuple([name for name, low, high in ranges])


def values_by_name(ranges, numbers):
    """A dict with the numbers of a state, an input or a reply, or of several behind each other."""
    return {row[0]: number for row, number in zip(ranges, numbers)}


def check_plant(plant):
    """Raise InvalidPlant if the plant is not valid."""
    variables, inputs, disturbances, steps, allowed = plant
    if variables == ():
        raise InvalidPlant("there are no variables")
    _check_ranges(variables + inputs + disturbances)
    if len(steps) != len(variables):
        raise InvalidPlant("there is not one step for each variable")
    _check_parts(steps, allowed)
    _check_names_in((allowed,), names_of(variables + inputs))
    _check_names_in(steps, names_of(variables + inputs + disturbances))


def _check_ranges(ranges):
    taken = {}
    for name, low, high in ranges:
        if not is_name(name):
            raise InvalidPlant("a name is not right")
        if name in taken:
            raise InvalidPlant("a name stands twice")
        if low > high:
            raise InvalidPlant("a range is empty")
        taken[name] = True


def _check_parts(steps, allowed):
    try:
        for step in steps:
            check_expression(step)
        check_condition(allowed)
    except InvalidExpression:
        raise InvalidPlant("a step or the condition is not valid") from None


def _check_names_in(parts, names):
    """Raise InvalidPlant if one of these valid parts names something else than these names."""
    for part in parts:
        for name in names_in(part):
            if name not in names:
                raise InvalidPlant("a step or the condition names what it may not name")


def states_of(plant):
    """All states, in ascending order."""
    return _rows_in(plant[0])


def inputs_of(plant, state):
    """The inputs that are allowed in a state, in ascending order."""
    variables, inputs, disturbances, steps, allowed = plant
    ranges = variables + inputs
    return tuple([move for move in _rows_in(inputs) if holds(allowed, values_by_name(ranges, state + move))])


def replies_of(plant):
    """All replies, in ascending order."""
    return _rows_in(plant[2])


def _rows_in(ranges):
    """All tuples with one integer in each of the ranges, in ascending order."""
    rows = [()]
    for name, low, high in ranges:
        rows = [row + (number,) for row in rows for number in range(low, high + 1)]
    return tuple(rows)


def next_state(plant, state, move, reply):
    """The next state for an input, allowed or not, and a reply, or None if the plant leaves."""
    variables, inputs, disturbances, steps, allowed = plant
    values = values_by_name(variables + inputs + disturbances, state + move + reply)
    after = tuple([value_of(step, values) for step in steps])
    for number, (name, low, high) in zip(after, variables):
        if not low <= number <= high:
            return None
    return after
