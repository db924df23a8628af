"""Arenas and goals of many shapes, always the same ones."""

import random


def arena_with(rows):
    """An arena of lists of options, which are put in order."""
    return tuple(tuple(tuple(sorted(set(option))) for option in options) for options in rows)


def some_arena(chance, many):
    """An arena with so many positions; each one has its own mixture of options, ways out and stuck positions."""
    most_options = chance.choice((1, 2, 3, 4))
    most_successors = chance.choice((1, 2, 2, 3))
    out = chance.choice((0, 0, 0.05, 0.3))
    stuck = chance.choice((0, 0, 0.1, 0.3))
    span = chance.choice((1, 2, many))
    rows = []
    for at in range(many):
        options = []
        if chance.random() >= stuck:
            for _ in range(chance.randint(1, most_options)):
                option = [(at + chance.randint(-span, span)) % many for _ in range(chance.randint(1, most_successors))]
                if chance.random() < out:
                    option = option[1:] + [-1]
                options.append(option)
        rows.append(options)
    return arena_with(rows)


def some_goals(chance, arena):
    """One goal of each kind."""
    many = len(arena)
    share = chance.choice((0.1, 0.5, 0.8, 1))
    greatest = chance.choice((0, 1, 2, 3, 4, 6))
    most = chance.choice((0, 1, 2, 5))
    return (
        ("stay", tuple(at for at in range(many) if chance.random() < share)),
        ("come", tuple(at for at in range(many) if chance.random() > share)),
        ("colours", tuple(chance.randint(0, greatest) for _ in range(many))),
        ("tank", tuple(tuple(chance.randint(-most, most) for _ in options) for options in arena)),
    )


def some_games(seed, times, most_positions=8):
    """Pairs of an arena and a goal, four times as many as told."""
    chance = random.Random(seed)
    for _ in range(times):
        arena = some_arena(chance, chance.randint(1, most_positions))
        for goal in some_goals(chance, arena):
            yield arena, goal


def one_option_arena(arena, strategy):
    """What a strategy leaves of an arena."""
    return tuple(() if index == -1 else (options[index],) for options, index in zip(arena, strategy))


# The empty goals of the empty arena.
EMPTY_GOALS = (("stay", ()), ("come", ()), ("colours", ()), ("tank", ()))
