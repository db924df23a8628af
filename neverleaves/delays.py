"""Delays: options that are carried out only after further picks.

With m options and queues of d indexes, a queue has a number from 0 to `m ** d - 1`, whose digits
to the base m are the indexes. The pair of a position and a queue comes in the order of
their numbers.
"""


def delayed_arena(arena, delay):
    """The delayed arena, and its pairs of a position and a queue in their order."""
    most = max([len(options) for options in arena], default=0)
    queues = _queues(most, delay)
    pairs = tuple([(at, queue) for at in range(len(arena)) for queue in queues])
    delayed = []
    for options in arena:
        for number in range(len(queues)):
            delayed.append(_options_of(options, number, most, len(queues)))
    return tuple(delayed), pairs


def _queues(most, delay):
    """All queues of so many indexes less than `most`, in ascending order."""
    # Here a delay may be so long that a queue is not to be made index by index.
    if most == 0 and delay > 0:
        return []
    if most == 1:
        return [(0,) * delay]
    queues = [()]
    for _ in range(delay):
        queues = [queue + (index,) for queue in queues for index in range(most)]
    return queues


def _options_of(options, number, most, many):
    """The options of the pair of a position with these options and one of so many queues."""
    delayed = []
    for pick in range(most):
        # The digits of the queue and of the pick behind it: the first one, and the others.
        first, rest = divmod(number * most + pick, many)
        delayed.append(_successors_of(options[first], rest, many) if first < len(options) else (-1,))
    return tuple(delayed)


def _successors_of(option, rest, many):
    """The pairs of the successors of an option and a queue, and -1 if it is a successor."""
    return tuple([-1 if after == -1 else after * many + rest for after in option])
