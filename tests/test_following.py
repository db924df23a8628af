"""Points [19], [25], [26]: what right papers show, for plays by the labels of told papers."""

import random
import unittest

from neverleaves.judging import judge
from neverleaves.plays import follow, play_on
from neverleaves.solving import owners, told_paper
from tests import oracles
from tests.some_arenas import some_games

CONTROLLER = ("holds", "comes", "even", "keeps")


class Plays(unittest.TestCase):
    def plays_of(self, seed, kind, times):
        """Arenas and goals of a kind with told papers, and random plays that follow them from all positions."""
        chance = random.Random(seed)
        for arena, goal in some_games(seed, times):
            if goal[0] != kind:
                continue
            paper = told_paper(arena, goal)
            for start in range(len(arena)):
                for length in (3, 12, 60):
                    picks = [chance.randint(-50, 50) for _ in range(length)]
                    play = follow(arena, paper, start, picks)
                    self.check_steps(arena, paper, start, picks, play)
                    yield arena, goal[1], paper, picks, play

    def check_steps(self, arena, paper, start, picks, play):
        """The play is one of the arena, with the picks and labels."""
        self.assertEqual(play[0], start)
        options, replies = self.picked(arena, paper, picks, play)
        self.assertEqual(play_on(arena, start, options, replies), play)
        last = play[-1]
        ended = last == -1 or arena[last] == () or (paper[last][0] in ("comes", "driven") and paper[last][1] == 0)
        self.assertEqual(len(play), len(picks) + 1) if not ended else self.assertLessEqual(len(play), len(picks) + 1)

    def picked(self, arena, paper, picks, play):
        """The options and the replies of a play."""
        options, replies = [], []
        for at, after, pick in zip(play, play[1:], picks):
            label = paper[at]
            if label[0] in CONTROLLER:
                options.append(label[-1])
                self.assertEqual(after, arena[at][label[-1]][pick % len(arena[at][label[-1]])])
            else:
                options.append(pick % len(arena[at]))
                self.assertEqual(after, label[-1][pick % len(arena[at])])
            replies.append(after)
        return options, replies

    def kinds_in(self, paper, play):
        """The kinds of labels that a play meets: one only."""
        kinds = {paper[at][0] for at in play if at != -1}
        self.assertEqual(len(kinds), 1)
        return kinds.pop()

    def test_staying(self):
        counts = {"holds": 0, "driven": 0}
        for arena, keep, paper, picks, play in self.plays_of(1, "stay", 300):
            kind = self.kinds_in(paper, play)
            counts[kind] += 1
            if kind == "holds":
                self.assertEqual(len(play), len(picks) + 1)
                self.assertTrue(set(play) <= set(keep))
                continue
            rank = paper[play[0]][1]
            self.assertLessEqual(len(play) - 1, rank)
            if len(picks) >= rank:
                last = play[-1]
                self.assertTrue(last == -1 or arena[last] == () or last not in keep)
        self.assertGreater(min(counts.values()), 1000)

    def test_coming(self):
        counts = {"comes": 0, "away": 0}
        for _, home, paper, picks, play in self.plays_of(2, "come", 300):
            kind = self.kinds_in(paper, play)
            counts[kind] += 1
            if kind == "away":
                self.assertFalse(set(play) & set(home))
                continue
            rank = paper[play[0]][1]
            self.assertLessEqual(len(play) - 1, rank)
            self.assertFalse(-1 in play)
            if len(picks) >= rank:
                self.assertIn(play[-1], home)
            self.assertFalse(set(play[:-1]) & set(home))
        self.assertGreater(min(counts.values()), 1000)

    def test_colours(self):
        counts = {"even": 0, "odd": 0}
        for arena, colours, paper, picks, play in self.plays_of(3, "colours", 300):
            kind = self.kinds_in(paper, play)
            counts[kind] += 1
            if kind == "even":
                self.assertEqual(len(play), len(picks) + 1)
                self.assertNotIn(-1, play)
            positions = [at for at in play if at != -1]
            bad = 1 if kind == "even" else 0
            for first in range(len(positions)):
                at = positions[first]
                if colours[at] % 2 == bad and at in positions[first + 1:]:
                    between = positions[first + 1:positions.index(at, first + 1)]
                    self.assertGreater(max([colours[one] for one in between], default=-1), colours[at])
        self.assertGreater(min(counts.values()), 1000)

    def test_tanks(self):
        counts = {"keeps": 0, "drained": 0}
        for arena, gains, paper, picks, play in self.plays_of(4, "tank", 300):
            kind = self.kinds_in(paper, play)
            counts[kind] += 1
            options, _ = self.picked(arena, paper, picks, play)
            steps = [gains[at][index] for at, index in zip(play, options)]
            number, n = paper[play[0]][1], len(arena)
            if kind == "keeps":
                self.assertEqual(len(play), len(picks) + 1)
                self.assertNotIn(-1, play)
                self.assertTrue(all(number + sum(steps[:k]) >= 0 for k in range(len(steps) + 1)))
                continue
            ended = play[-1] == -1 or arena[play[-1]] == ()
            for k in range(len(play) - 1 if ended else len(play)):
                self.assertLessEqual(n * sum(steps[:k]), number - k)
            for credit in (0, 1, 3):
                ends = [k for k in range(len(play)) if credit + sum(steps[:k]) < 0]
                ends += [len(play) - 1] if ended else []
                most = n * credit + number + 1
                self.assertTrue(min(ends) <= most if ends else len(play) - 1 < most)
        self.assertGreater(min(counts.values()), 1000)


class Owners(unittest.TestCase):
    def test_the_kinds_of_right_papers_tell_them(self):
        for arena, goal in some_games(5, 300):
            told = owners(arena, goal)
            paper = told_paper(arena, goal)
            self.assertIs(judge(arena, goal, paper), True)
            self.assertIsInstance(told, tuple)
            self.assertEqual(told, tuple("controller" if label[0] in CONTROLLER else "disturbance" for label in paper))

    def test_ways_of_picking_options(self):
        """The controller owns a position exactly if one of its strategies keeps the goal from there."""
        seen = set()
        for arena, goal in some_games(6, 150, 4):
            told = owners(arena, goal)
            for start in range(len(arena)):
                kept = any(self.keeps(arena, goal, strategy, start) for strategy in self.strategies(arena))
                self.assertEqual(told[start], "controller" if kept else "disturbance")
                seen.add((goal[0], kept))
        self.assertEqual(len(seen), 8)

    def strategies(self, arena):
        rows = [()]
        for options in arena:
            rows = [row + (index,) for row in rows for index in (range(len(options)) if options else [-1])]
        return rows

    def keeps(self, arena, goal, strategy, start):
        """True if every play by the strategy keeps the goal: the arena of the strategy has no rings against it."""
        kind, told = goal
        if kind == "come" and start in told:
            return True
        met, waiting = {start}, [start]
        while waiting:
            at = waiting.pop()
            if kind == "come" and at in told:
                continue
            if strategy[at] == -1 or -1 in arena[at][strategy[at]] or (kind == "stay" and at not in told):
                return False
            for after in arena[at][strategy[at]]:
                if after not in met:
                    met.add(after)
                    waiting.append(after)
        if kind == "stay":
            return True
        return not any(self.breaks(goal, ring, strategy) for ring in self.rings(arena, strategy, met, goal))

    def rings(self, arena, strategy, met, goal):
        """All rings without a position twice among the positions that are met."""
        ways = [(at,) for at in met]
        while ways:
            way = ways.pop()
            if goal[0] == "come" and way[-1] in goal[1]:
                continue
            for after in arena[way[-1]][strategy[way[-1]]]:
                if after == way[0]:
                    yield way
                elif after not in way:
                    ways.append(way + (after,))

    def breaks(self, goal, ring, strategy):
        kind, told = goal
        if kind == "come":
            return True
        if kind == "colours":
            return max(told[at] for at in ring) % 2 == 1
        return sum(told[at][strategy[at]] for at in ring) < 0


class MoreRightPapers(unittest.TestCase):
    def test_the_judge_takes_no_paper_with_another_owner(self):
        """Point [26]: whatever right paper there is, its kinds tell the same owners."""
        chance = random.Random(26)
        found = 0
        for arena, goal in some_games(26, 200, 3):
            told = told_paper(arena, goal)
            for _ in range(20):
                paper = tuple(self.label(chance, arena, goal, told, at) for at in range(len(arena)))
                if judge(arena, goal, paper):
                    found += 1
                    self.assertTrue(oracles.right(arena, goal, paper))
                    self.assertEqual([label[0] for label in paper], [label[0] for label in told])
        self.assertGreater(found, 1000)

    def label(self, chance, arena, goal, told, at):
        """The told label, or with all numbers doubled, or one of the other side."""
        other = {"holds": "driven", "driven": "holds", "comes": "away", "away": "comes", "even": "odd", "odd": "even",
                 "keeps": "drained", "drained": "keeps"}[told[at][0]]
        if chance.random() < 0.8:
            return told[at]
        index = chance.randint(-1, 1)
        replies = tuple(chance.choice(option) for option in arena[at])
        entries = max(goal[1], default=0) // 2 + 1 if goal[0] == "colours" else 0
        return {
            "holds": ("holds", index), "driven": ("driven", chance.randint(0, 3), replies),
            "comes": ("comes", chance.randint(0, 3), index), "away": ("away", replies),
            "even": ("even", tuple(chance.randint(0, 1) for _ in range(entries)), index),
            "odd": ("odd", tuple(chance.randint(0, 1) for _ in range(entries)), replies),
            "keeps": ("keeps", chance.randint(0, 5), index), "drained": ("drained", chance.randint(0, 9), replies),
        }[other]


if __name__ == "__main__":
    unittest.main()
