"""What the document says of told papers, word by word and slowly: for comparisons with the program.

An arena is a tuple of positions as in the document. Nothing here uses the package.
"""


def owned_by_force(arena, good, lost):
    """The positions from which the controller can force a play to good ones, by repeated steps."""
    owned = set(good)
    while True:
        more = {
            at for at, options in enumerate(arena)
            if at not in owned and at not in lost and any(set(option) <= owned for option in options)
        }
        if not more:
            return owned
        owned |= more


def stay_owned(arena, keep):
    """The positions that the controller owns for staying: the greatest set that it can stay in."""
    owned = set(keep)
    while True:
        fewer = {at for at in owned if any(set(option) <= owned for option in arena[at])}
        if fewer == owned:
            return owned
        owned = fewer


def told_stay(arena, keep):
    owned = stay_owned(arena, keep)
    others = [at for at in range(len(arena)) if at not in owned]
    ranks = {at: 0 for at in others if at not in keep}
    ranks[-1] = 0
    while True:
        # A rank is told once the ranks that it is made of cannot become less any more.
        more = {}
        for at in others:
            if at not in ranks:
                least = [min([ranks[w] for w in option if w in ranks], default=None) for option in arena[at]]
                if None not in least:
                    more[at] = 1 + max(least, default=0)
        if not more:
            break
        smallest = min(more.values())
        ranks.update({at: rank for at, rank in more.items() if rank == smallest})
    paper = []
    for at, options in enumerate(arena):
        if at in owned:
            paper.append(("holds", min(k for k, option in enumerate(options) if set(option) <= owned)))
        elif at not in keep:
            paper.append(("driven", 0, ()))
        else:
            replies = []
            for option in options:
                if -1 in option:
                    replies.append(-1)
                else:
                    replies.append(min((ranks[w], w) for w in option if w not in owned)[1])
            paper.append(("driven", ranks[at], tuple(replies)))
    return tuple(paper)


def told_come(arena, home):
    owned = owned_by_force(arena, home, ())
    ranks = {at: 0 for at in home}
    while len(ranks) < len(owned):
        more = {}
        for at in owned:
            if at not in ranks:
                worst = [max(ranks[w] for w in option) for option in arena[at] if set(option) <= set(ranks)]
                if worst:
                    more[at] = 1 + min(worst)
        smallest = min(more.values())
        ranks.update({at: rank for at, rank in more.items() if rank == smallest})
    paper = []
    for at, options in enumerate(arena):
        if at in home:
            paper.append(("comes", 0, -1))
        elif at in owned:
            fitting = [k for k, option in enumerate(options)
                       if all(w in owned and ranks[w] < ranks[at] for w in option)]
            paper.append(("comes", ranks[at], min(fitting)))
        else:
            paper.append(("away", tuple(min(w for w in option if w not in owned) for option in options)))
    return tuple(paper)


class Measures:
    """Even measures (parity 0) or odd measures (parity 1) of an arena with colours."""

    def __init__(self, arena, colours, parity):
        self.arena = arena
        self.colours = colours
        self.parity = parity
        greatest = max(colours, default=0)
        self.entry_colours = [q for q in range(greatest, -1, -1) if q % 2 != parity]
        self.caps = [colours.count(q) for q in self.entry_colours]

    def head(self, measure, colour):
        return tuple(entry for entry, q in zip(measure, self.entry_colours) if q >= colour)

    def least(self, colour, head):
        """The least measure that counts with a head at least this one, or greater; None if there is none."""
        entries = list(head)
        if colour % 2 != self.parity:
            place = len(entries) - 1
            while place >= 0 and entries[place] == self.caps[place]:
                entries[place] = 0
                place -= 1
            if place < 0:
                return None
            entries[place] += 1
        return tuple(entries) + (0,) * (len(self.entry_colours) - len(entries))

    def least_of(self, colour, measures):
        """The least measure for all of these measures of successors."""
        return self.least(colour, max(self.head(measure, colour) for measure in measures))

    def lift_even(self, measures, at, option):
        if any(w == -1 or measures[w] is None for w in option):
            return None
        return self.least_of(self.colours[at], [measures[w] for w in option])

    def lift_odd(self, measures, at, option):
        lifts = []
        for w in option:
            if w == -1:
                lifts.append((0,) * len(self.entry_colours))
            elif measures[w] is not None:
                lifts.append(self.least_of(self.colours[at], [measures[w]]))
        return min([lift for lift in lifts if lift is not None], default=None)

    def lifted(self, measures, at):
        """The measure of a position after a lift."""
        before = measures[at]
        if before is None:
            return None
        if self.parity == 0:
            lifts = [self.lift_even(measures, at, option) for option in self.arena[at]]
            lifts = [lift for lift in lifts if lift is not None]
            return max(before, min(lifts)) if lifts else None
        lifts = [self.lift_odd(measures, at, option) for option in self.arena[at]]
        if None in lifts:
            return None
        return max([before] + lifts)

    def solve(self):
        measures = [(0,) * len(self.entry_colours) for _ in self.arena]
        changed = True
        while changed:
            changed = False
            for at in range(len(self.arena)):
                after = self.lifted(measures, at)
                if after != measures[at]:
                    measures[at] = after
                    changed = True
        return measures

    def fits(self, measures, at, w):
        """True if a successor may stand behind a position with these measures."""
        if w == -1:
            return self.parity == 1
        if measures[w] is None:
            return False
        colour = self.colours[at]
        mine, other = self.head(measures[at], colour), self.head(measures[w], colour)
        return mine > other if colour % 2 != self.parity else mine >= other


def told_colours(arena, colours):
    even = Measures(arena, colours, 0)
    odd = Measures(arena, colours, 1)
    evens, odds = even.solve(), odd.solve()
    paper = []
    for at, options in enumerate(arena):
        assert (evens[at] is None) != (odds[at] is None)
        if evens[at] is not None:
            right = [k for k, option in enumerate(options) if all(even.fits(evens, at, w) for w in option)]
            paper.append(("even", evens[at], min(right)))
        else:
            replies = tuple(min(w for w in option if odd.fits(odds, at, w)) for option in options)
            paper.append(("odd", odds[at], replies))
    return tuple(paper)


def all_credits(arena, gains):
    most = len(arena) * max([0] + [-gain for row in gains for gain in row])
    found = [0] * len(arena)
    changed = True
    while changed:
        changed = False
        for at, options in enumerate(arena):
            if found[at] is None:
                continue
            lifts = []
            for option, gain in zip(options, gains[at]):
                if all(w != -1 and found[w] is not None for w in option):
                    lift = max([0] + [found[w] - gain for w in option])
                    if lift <= most:
                        lifts.append(lift)
            after = max(found[at], min(lifts)) if lifts else None
            if after != found[at]:
                found[at] = after
                changed = True
    return found


def all_loads(arena, gains):
    n = len(arena)
    most = n * max([0] + [n * gain + 1 for row in gains for gain in row])
    found = [0] * n
    changed = True
    while changed:
        changed = False
        for at, options in enumerate(arena):
            if found[at] is None:
                continue
            lifts = []
            for option, gain in zip(options, gains[at]):
                each = [0] if -1 in option else []
                each += [max(0, found[w] + n * gain + 1) for w in option if w != -1 and found[w] is not None]
                lifts.append(min([lift for lift in each if lift <= most], default=None))
            after = None if None in lifts else max([found[at]] + lifts)
            if after != found[at]:
                found[at] = after
                changed = True
    return found


def told_tank(arena, gains):
    n = len(arena)
    credits_, loads = all_credits(arena, gains), all_loads(arena, gains)
    paper = []
    for at, options in enumerate(arena):
        assert (credits_[at] is None) != (loads[at] is None)
        if credits_[at] is not None:
            right = [
                k for k, option in enumerate(options)
                if all(w != -1 and credits_[w] is not None and credits_[w] <= credits_[at] + gains[at][k]
                       for w in option)
            ]
            paper.append(("keeps", credits_[at], min(right)))
        else:
            replies = []
            for option, gain in zip(options, gains[at]):
                replies.append(min(
                    w for w in option
                    if w == -1 or (loads[w] is not None and loads[w] <= loads[at] - (n * gain + 1))))
            paper.append(("drained", loads[at], tuple(replies)))
    return tuple(paper)


def told(arena, goal):
    """The told paper of an arena and a goal."""
    tell = {"stay": told_stay, "come": told_come, "colours": told_colours, "tank": told_tank}[goal[0]]
    return tell(arena, goal[1])


def right(arena, goal, paper):
    """What the document says of a right paper."""
    return len(paper) == len(arena) and all(right_label(arena, goal, paper, at) for at in range(len(arena)))


def right_label(arena, goal, paper, at):
    kind = paper[at][0]
    numbers = {"stay": right_staying, "come": right_coming, "colours": right_colours, "tank": right_tank}
    checked = numbers[goal[0]](arena, goal[1], paper, at)
    if checked is not None:
        return checked
    if kind in ("holds", "comes", "even", "keeps"):
        index = paper[at][-1]
        if index < 0 or index >= len(arena[at]):
            return False
        picks = [(index, after) for after in arena[at][index]]
        if any(after == -1 for _, after in picks):
            return False
    else:
        replies = paper[at][-1]
        if len(replies) != len(arena[at]):
            return False
        if any(reply not in option for reply, option in zip(replies, arena[at])):
            return False
        picks = [(index, reply) for index, reply in enumerate(replies) if reply != -1]
    return all(paper[after][0] == kind and step_is_right(arena, goal[1], paper, at, index, after)
               for index, after in picks)


def right_staying(arena, keep, paper, at):
    """True or False if nothing more is to be looked at; otherwise None. Likewise below."""
    label = paper[at]
    if label[0] == "holds":
        return None if at in keep else False
    if at not in keep:
        return label[1] == 0 and label[2] == ()
    return None if label[1] >= 1 else False


def right_coming(arena, home, paper, at):
    label = paper[at]
    if label[0] == "away":
        return False if at in home else None
    if at in home:
        return label[1] == 0 and label[2] == -1
    return None if label[1] >= 1 else False


def right_colours(arena, colours, paper, at):
    kind, measure, _ = paper[at]
    measures = Measures(arena, colours, 0 if kind == "even" else 1)
    if len(measure) != len(measures.entry_colours) or any(entry < 0 for entry in measure):
        return False
    return None


def right_tank(arena, gains, paper, at):
    return None if paper[at][1] >= 0 else False


def step_is_right(arena, told_of_goal, paper, at, index, after):
    """True if the numbers of the labels of a position and of a successor, of one kind, are right."""
    kind = paper[at][0]
    if kind in ("driven", "comes"):
        return paper[after][1] < paper[at][1]
    if kind in ("even", "odd"):
        measures = Measures(arena, told_of_goal, 0 if kind == "even" else 1)
        return measures.fits([label[1] for label in paper], at, after)
    if kind == "keeps":
        return paper[after][1] <= paper[at][1] + told_of_goal[at][index]
    if kind == "drained":
        return paper[after][1] <= paper[at][1] - (len(arena) * told_of_goal[at][index] + 1)
    return True
