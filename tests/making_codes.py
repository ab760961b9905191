"""Codes made by a seed, of steps in any order: more than lowering makes, so rules can be held against them too."""

import random

from exitweave.code import Code, Compute, Enter, Handon, Jump, Label, Move, Piece, Return, Send, Summon, Tell, Test

NAMES = ("x", "y", "g.x", "w.0", "fault.0", "p")
WAYS = ("fault", "end", "one", "two")


class CodeMaker:
    """Makes one code; no Jumps lead round in it, since each leads to a label behind it."""

    def __init__(self, seed):
        self.chance = random.Random(seed)
        self.shapes = [
            (name, ["p", "q"][:self.chance.randint(0, 2)], list(WAYS[:self.chance.randint(2, 4)]))
            for name in "fghkm"[:self.chance.randint(1, 5)]
        ]

    def code(self):
        return Code([self.piece(*shape) for shape in self.shapes])

    def piece(self, name, params, ways):
        self.labels = [f"l{number}" for number in range(self.chance.randint(1, 6))]
        kinds = [self.chance.choice(self.kinds()) for _ in range(self.chance.randint(0, 12))] + self.labels
        self.chance.shuffle(kinds)
        steps = []
        for spot, kind in enumerate(kinds):
            mark = (name, spot)
            if kind in self.labels:
                steps.append(Label(mark, kind))
            else:
                behind = [label for label in kinds[spot:] if label in self.labels]
                steps.append(self.step(kind, mark, ways, behind))
        return Piece(name, params, ways, steps + [Return((name, len(steps)), 1, [])])

    def kinds(self):
        return ["move", "compute", "tell", "test", "jump", "jump", "summon", "summon", "handon", "enter", "send", "return"]

    def atom(self):
        return self.chance.choice(NAMES + (0, -3))

    def label(self):
        return self.chance.choice(self.labels)

    def pairs(self):
        goals = self.chance.sample(NAMES, self.chance.randint(0, 2))
        return [(goal, self.atom()) for goal in goals]

    def arm(self):
        if self.chance.random() < 0.3:
            return None
        return (self.label(), self.chance.choice([[], [], ["x"], ["x", "y"], ["fault.0"]]))

    def step(self, kind, mark, ways, behind):
        chance = self.chance
        if kind in ("summon", "handon"):
            name, params, its_ways = chance.choice(self.shapes)
            atoms = [self.atom() for _ in params]
            if kind == "summon":
                return Summon(mark, name, atoms, [self.arm() for _ in its_ways])
            return Handon(mark, name, atoms, [chance.randint(-1, len(ways) - 1) for _ in its_ways])
        if kind == "jump" and behind:
            return Jump(mark, chance.choice(behind))
        if kind == "return":
            return Return(mark, chance.randrange(len(ways)), chance.choice([[], [], ["x"], ["x", "y"], ["fault.0"], [1]]))
        if kind == "compute":
            return Compute(mark, chance.choice(NAMES), chance.choice("+-*/"), self.atom(), self.atom(), self.label())
        if kind == "test":
            return Test(mark, chance.choice("<="), self.atom(), self.atom(), self.label())
        if kind == "enter":
            return Enter(mark, self.pairs(), chance.sample(NAMES[:4], chance.randint(0, 2)))
        if kind == "send":
            return Send(mark, self.pairs(), self.label())
        if kind == "move":
            return Move(mark, chance.choice(NAMES), self.atom())
        return Tell(mark, self.atom())


def made_code(seed):
    return CodeMaker(seed).code()
