"""Texts of programs, made by a seed: the same seed makes the same text each time."""

import random

VARIABLES = ("a", "b", "c", "x", "y", "longname")
NUMBERS = ("0", "1", "2", "3", "-1", "-7", "999999999999", "-999999999999")


class Maker:
    """Makes one text. An armed one has an arm for each way of each call, so that it forgets none."""

    def __init__(self, seed, armed=True):
        self.chance = random.Random(seed)
        self.armed = armed
        self.written = []
        self.functions = []

    def text(self):
        chance = self.chance
        for number in range(chance.randint(1, 4)):
            params = [chance.choice("abc") + chance.choice("pq") * k for k in range(1, chance.randint(1, 3))]
            names = chance.sample(["one", "two", "far", "a", "f"], chance.randint(0, 3))
            ways = [(name, chance.randint(0, 3)) for name in names]
            self.functions.append(("fghk"[number], list(dict.fromkeys(params)), ways))
        for function in self.functions:
            name, params, ways = function
            self.write(0, "fun", name, *params)
            for way, count in ways:
                self.write(1, "way", way, count)
            self.rows(function, 1, chance.randint(0, 6))
        return "\n".join(self.written)

    def write(self, depth, *words):
        self.written.append("  " * depth + " ".join(map(str, words)))

    def atom(self):
        return self.chance.choice(VARIABLES + NUMBERS)

    def atoms(self, count):
        return [self.atom() for _ in range(count)]

    def way(self, function, count=None):
        ways = [("end", 0)] + function[2]
        fitting = [name for name, values in ways if count is None or values == count]
        return self.chance.choice(fitting) if fitting else None

    def rows(self, function, depth, count):
        for _ in range(count):
            kinds = ["copy", "reckon", "reckon", "say", "say"]
            if depth < 5:
                kinds += ["if", "if", "stretch", "stretch", "call", "call", "call"]
            if self.chance.random() < 0.5:
                kinds.append("leave")
            getattr(self, self.chance.choice(kinds))(function, depth)

    def copy(self, function, depth):
        self.write(depth, self.chance.choice(VARIABLES), "=", self.atom())

    def reckon(self, function, depth):
        self.write(depth, self.chance.choice(VARIABLES), "=", self.atom(), self.chance.choice("+-*/"), self.atom())

    def say(self, function, depth):
        self.write(depth, "say", self.atom())

    def leave(self, function, depth):
        ways = dict([("end", 0)] + function[2])
        way = self.chance.choice(list(ways))
        self.write(depth, "leave", way, *self.atoms(ways[way]))

    def few(self):
        return self.chance.randint(0, 3)

    def if_row(self, function, depth):
        self.write(depth, "if", self.atom(), self.chance.choice("<="), self.atom())
        self.rows(function, depth + 1, self.few())
        self.write(depth, "else")
        self.rows(function, depth + 1, self.few())

    def stretch(self, function, depth):
        self.write(depth, "stretch")
        self.rows(function, depth + 1, self.few())
        self.write(depth, "clean")
        for _ in range(self.chance.randint(0, 2)):
            self.chance.choice([self.copy, self.say])(function, depth + 1)

    def call(self, function, depth):
        callee = self.chance.choice(self.functions)
        self.write(depth, "call", callee[0], *self.atoms(len(callee[1])))
        ways = [("end", 0)] + callee[2]
        self.chance.shuffle(ways)
        for way, count in ways:
            if self.armed or self.chance.random() < 0.8:
                self.arm(function, depth + 1, way, count)

    def arm(self, function, depth, way, count):
        own = self.way(function, count)
        goals = self.chance.sample(VARIABLES, count)
        kind = self.chance.choice(["on", "on", "out", "out", "again"])
        if kind == "again":
            self.write(depth, "again", way, *goals)
        elif kind == "out" and own is not None:
            self.write(depth, "out", way, own)
        else:
            self.write(depth, "on", way, *goals)
            self.rows(function, depth + 1, self.few())


# `if` is no name that a def may have.
setattr(Maker, "if", Maker.if_row)


def made_text(seed, armed=True):
    """A text of a program with at most 300 lines; the next seeds are tried where one makes a longer one."""
    for again in range(100):
        text = Maker(seed + 100000 * again, armed).text()
        if text.count("\n") < 300:
            return text
    raise AssertionError("no short text")


def spoilt_text(seed):
    """A text that was made so and then changed in its lines at one or two places; it may be a program's still."""
    chance = random.Random(seed)
    lines = made_text(seed).split("\n")
    for _ in range(chance.randint(1, 2)):
        spot = chance.randrange(len(lines))
        other = chance.randrange(len(lines))
        words = lines[spot].split(" ")
        change = chance.randint(0, 8)
        if change == 0:
            lines[spot] = "  " + lines[spot]
        elif change == 1:
            lines[spot] = lines[spot][chance.randint(1, 2):]
        elif change == 2 and len(lines) > 1:
            del lines[spot]
        elif change == 3:
            lines.insert(spot, lines[other])
        elif change == 4:
            lines[spot], lines[other] = lines[other], lines[spot]
        elif change == 5:
            spoilt = ["a", "one", "far", "f", "g", "end", "fault", "4", "01", "=", "call", "-0"]
            words[chance.randrange(len(words))] = chance.choice(spoilt)
            lines[spot] = " ".join(words)
        elif change == 6:
            lines[spot] += chance.choice([" ", " a", " 1", " one", " x y"])
        elif change == 7:
            lines[spot] = " ".join(words[:-1])
        else:
            line = chance.choice(["", "else", "clean", "say 1", "way one 0", "fun f"])
            lines.insert(spot, "  " * chance.randint(0, 3) + line)
    return "\n".join(lines)


def misnamed_text(seed):
    """A text that was made so and then got other names, or more or fewer words, on lines that have some."""
    chance = random.Random(seed)
    lines = made_text(seed).split("\n")
    for _ in range(chance.randint(1, 3)):
        spot = chance.randrange(len(lines))
        words = lines[spot].lstrip(" ").split(" ")
        ahead = " " * (len(lines[spot]) - len(lines[spot].lstrip(" ")))
        if words[0] in ("fun", "way", "leave", "call", "on", "out", "again"):
            change = chance.randint(0, 3)
            if change == 0 and words[0] not in ("way", "out"):
                words.append(chance.choice(["a", "x", "one"]))
            elif change == 1 and len(words) > 2 and words[0] not in ("way", "out"):
                words.pop()
            elif change == 2:
                words[1] = chance.choice(["one", "two", "far", "a", "f", "g", "h"])
            elif len(words) > 2 and words[0] != "way":
                words[2] = chance.choice(["one", "two", "a", "f", "x"])
        lines[spot] = ahead + " ".join(words)
    return "\n".join(lines)


def marked_stretches(text):
    """The text with a saying at the begin of each stretch, and another one as its clean-up rows: 7000000 and
    8000000 and the stretch's number."""
    told, within, open_ones, count = [], None, {}, 0
    for line in text.split("\n"):
        depth = len(line) - len(line.lstrip(" "))
        if within is None or depth <= within:
            within = None
            told.append(line)
        if line.strip() == "stretch":
            count += 1
            open_ones[depth] = count
            told.append(" " * (depth + 2) + f"say {7000000 + count}")
        if line.strip() == "clean":
            within = depth
            told.append(" " * (depth + 2) + f"say {8000000 + open_ones[depth]}")
    return "\n".join(told)
