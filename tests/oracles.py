"""The document's rules told a second time, in other ways than the program's, to hold its answers against."""

import re

from exitweave.trees import Again, Call, Copy, If, Leave, On, Out, Reckon, Say, Stretch, walk_rows

OWN_WORDS = "fun|way|say|leave|if|else|stretch|clean|call|on|out|again|end|fault"
NAME = rf"(?!(?:{OWN_WORDS})(?![a-z]))[a-z]{{1,8}}(?![a-z])"
ATOM = rf"(?:0|-?[1-9][0-9]{{0,11}}(?![0-9])|{NAME})"
WAY = rf"(?:end(?![a-z])|{NAME})"

CLEANS = [rf"{NAME} = {ATOM}", rf"say {ATOM}"]
ROWS = CLEANS + [
    rf"{NAME} = {ATOM} [-+*/] {ATOM}", rf"leave {WAY}(?: {ATOM})*", rf"if {ATOM} [<=] {ATOM}", "stretch",
    rf"call {NAME}(?: {ATOM})*",
]
ARMS = [rf"on {WAY}(?: {NAME})*", rf"out {WAY} {WAY}", rf"again {WAY}(?: {NAME})*"]
FUN = [rf"fun {NAME}(?: {NAME})*"]
WAYS = [rf"way {NAME} [0-3]"]

# What may stand straight in each kind of list of lines, and which list each line opens one deeper.
MAY_STAND = {"top": FUN, "ways": WAYS + ROWS, "rows": ROWS, "then": ROWS, "stretch": ROWS, "clean": CLEANS, "arms": ARMS}
OPENS = {"fun": "ways", "if": "then", "else": "rows", "stretch": "stretch", "clean": "clean", "call": "arms", "on": "rows"}
CLOSERS = {"then": "else", "stretch": "clean"}


def verdict(text):
    """How a text is refused: a tuple of the error's name and its fields, None where it is a program."""
    lines = text.split("\n")
    return wrong_line(lines) or wrong_name(lines)


def wrong_line(lines):
    stack = ["top"]
    functions = ways = 0
    for place, line in enumerate(lines, 1):
        parts = re.fullmatch(r"((?:  )*)([!-~]+(?: [!-~]+)*)", line)
        if parts is None:
            return ("NoProgram", place)
        depth, content = len(parts[1]) // 2, parts[2]
        closing = [(level - 1, CLOSERS[kind]) for level, kind in enumerate(stack) if kind in CLOSERS and level > depth]
        if closing:
            fits = closing == [(depth, content)]
        else:
            fits = depth < len(stack) and any(re.fullmatch(form, content) for form in MAY_STAND[stack[depth]])
        if not fits:
            return ("NoProgram", place)
        del stack[depth + 1:]
        head = content.split(" ")[0]
        functions += head == "fun"
        ways = 0 if head == "fun" else ways + (head == "way")
        params = content.count(" ") - 1 if head == "fun" else 0
        if functions > 40 or params > 4 or ways > 8 or place > 400 or depth > 14:
            return ("TooMuch", place)
        if stack[depth] == "ways" and head != "way":
            stack[depth] = "rows"
        if head in OPENS:
            stack.append(OPENS[head])
    if any(kind in CLOSERS for kind in stack):
        return ("NoProgram", len(lines) + 1)
    return None


def told_functions(lines):
    """Each function's parameters and ways by its name; where one name stands several times, the first one's."""
    told = {}
    latest = None
    for line in lines:
        words = line.split()
        if words[0] == "fun":
            latest = (words[2:], {"end": 0})
            told.setdefault(words[1], latest)
        elif words[0] == "way":
            latest[1].setdefault(words[1], int(words[2]))
    return told


def wrong_name(lines):
    told = told_functions(lines)
    functions, ways, arms, calls = [], [], {}, {}
    for place, line in enumerate(lines, 1):
        words = line.split()
        depth = (len(line) - len(line.lstrip(" "))) // 2
        head, rest = words[0], words[1:]
        if head == "fun":
            if rest[0] in functions:
                return ("Doubled", place, rest[0])
            functions.append(rest[0])
            ways = []
            doubled = twice(rest[1:])
            own = told[rest[0]]
        elif head == "way":
            doubled = rest[0] if rest[0] in ways else None
            ways.append(rest[0])
        elif head == "call":
            doubled = None
            calls[depth] = rest[0]
            arms[depth] = []
        elif head in ("on", "out", "again"):
            doubled = rest[0] if rest[0] in arms[depth - 1] else twice(rest[1:]) if head != "out" else None
            arms[depth - 1].append(rest[0])
        else:
            doubled = None
        if doubled:
            return ("Doubled", place, doubled)
        wrong = wrong_use(told, own, calls.get(depth - 1), head, rest)
        if wrong:
            return (wrong[0], place, wrong[1])
    return None


def wrong_use(told, own, callee, head, rest):
    if head == "call":
        if rest[0] not in told:
            return ("Unknown", rest[0])
        return None if len(told[rest[0]][0]) == len(rest) - 1 else ("WrongCount", rest[0])
    if head not in ("leave", "on", "out", "again"):
        return None
    left = own if head == "leave" else told[callee]
    if rest[0] not in left[1]:
        return ("Unknown", rest[0])
    count = left[1][rest[0]]
    if head == "out":
        if rest[1] not in own[1]:
            return ("Unknown", rest[1])
        return None if own[1][rest[1]] == count else ("WrongCount", rest[1])
    return None if len(rest) - 1 == count else ("WrongCount", rest[0])


def twice(names):
    for spot, name in enumerate(names):
        if name in names[:spot]:
            return name
    return None


def all_facts(program):
    """The facts of a program: all functions are gone through again and again with the ways known so far."""
    ways = set()
    while True:
        facts = set(ways)
        for function in program.functions:
            if goes_through(facts, ways, function, function.place, 0, function.rows):
                facts.add(("way", function.name, "end"))
        found = {fact for fact in facts if fact[0] == "way"}
        if found == ways:
            return facts
        ways = found


def goes_through(facts, ways, function, place, number, rows):
    facts.add(("in", place, number))
    for row in rows:
        facts.add(("at", row.place))
        if not goes_past(facts, ways, function, row):
            return False
        facts.add(("past", row.place))
    facts.add(("through", place, number))
    return True


def goes_past(facts, ways, function, row):
    if isinstance(row, Leave):
        facts.add(("way", function.name, row.way))
        return False
    if isinstance(row, If):
        one = goes_through(facts, ways, function, row.place, 0, row.then)
        other = goes_through(facts, ways, function, row.place, 1, row.orelse)
        return one or other
    if isinstance(row, Stretch):
        return goes_through(facts, ways, function, row.place, 0, row.rows)
    if isinstance(row, Call):
        past = False
        for arm in row.arms:
            if ("way", row.callee, arm.way) in ways:
                if isinstance(arm, Out):
                    facts.add(("way", function.name, arm.own))
                if isinstance(arm, On) and goes_through(facts, ways, function, arm.place, 0, arm.rows):
                    past = True
        return past
    return True


class Left(Exception):
    """A function is left by a way with values."""


class Dry(Exception):
    """There is no fuel left."""


class Teller:
    """Runs a program by Python's own calls and errors; only for runs with few calls in one another."""

    def __init__(self, program, fuel):
        self.program = program
        self.fuel = fuel
        self.log = []
        self.marks = []

    def told(self, numbers):
        try:
            way, values = self.done(self.program.functions[0], numbers)
        except Dry:
            return (self.log, ("dry",), self.marks)
        if way == "fault":
            return (self.log, ("fault", ["nought", "great"][values[0]]), self.marks)
        return (self.log, ("way", way, values), self.marks)

    def done(self, function, numbers):
        frame = dict(zip(function.params, numbers))
        try:
            self.rows(frame, function.rows)
            left = ("end", ())
        except Left as error:
            left = error.args
        self.marks.append(("way", function.name, left[0]))
        return left

    def rows(self, frame, rows):
        for row in rows:
            self.row(frame, row)

    def row(self, frame, row):
        def worth(atom):
            return atom if isinstance(atom, int) else frame.get(atom, 0)

        if isinstance(row, Copy):
            frame[row.goal] = worth(row.atom)
        elif isinstance(row, Say):
            self.log.append(worth(row.atom))
        elif isinstance(row, Reckon):
            frame[row.goal] = self.result(row.op, worth(row.one), worth(row.other))
        elif isinstance(row, Leave):
            raise Left(row.way, tuple(worth(atom) for atom in row.atoms))
        elif isinstance(row, If):
            one, other = worth(row.one), worth(row.other)
            self.rows(frame, row.then if (one < other if row.sign == "<" else one == other) else row.orelse)
        elif isinstance(row, Stretch):
            self.stretch(frame, row)
        else:
            self.call(frame, row, worth)

    def result(self, op, one, other):
        if op == "/" and other == 0:
            raise Left("fault", (0,))
        number = {"+": one.__add__, "-": one.__sub__, "*": one.__mul__, "/": one.__floordiv__}[op](other)
        if len(str(number).lstrip("-")) > 40:
            raise Left("fault", (1,))
        return number

    def stretch(self, frame, row):
        self.marks.append(("enter", row.place))
        try:
            self.rows(frame, row.rows)
        except Left:
            self.marks.append(("clean", row.place))
            self.rows(frame, row.clean)
            raise
        self.marks.append(("clean", row.place))
        self.rows(frame, row.clean)

    def call(self, frame, row, worth):
        while True:
            if self.fuel == 0:
                raise Dry()
            self.fuel -= 1
            self.marks.append(("call", row.callee))
            way, values = self.done(self.program.function(row.callee), [worth(atom) for atom in row.atoms])
            if way == "fault":
                raise Left(way, values)
            arm = {arm.way: arm for arm in row.arms}[way]
            if isinstance(arm, Out):
                raise Left(arm.own, values)
            frame.update(zip(arm.goals, values))
            if not isinstance(arm, Again):
                self.rows(frame, arm.rows)
                return


def all_steps(program):
    """The steps of a program as a set, kind by kind of step and not row by row."""
    steps = set()
    for function in program.functions:
        steps.add((("in", function.place, 0), "body", ()))
        steps.add((("way", function.name, "end"), "end", (("through", function.place, 0),)))
        rows = walk_rows(function.rows)
        blocks = [(function.place, 0, function.rows)]
        for row in rows:
            blocks += row.blocks()
        for place, number, within in blocks:
            points = [("in", place, number)]
            for row in within:
                points += [("at", row.place), ("past", row.place)]
            points.append(("through", place, number))
            for spot in range(0, len(points), 2):
                steps.add((points[spot + 1], "next" if spot else "first", (points[spot],)))
        cleans = [clean for row in rows if isinstance(row, Stretch) for clean in row.clean]
        for row in rows:
            if row not in cleans:
                steps |= own_steps(function, row)
    return steps


def own_steps(function, row):
    at, past = ("at", row.place), ("past", row.place)
    if isinstance(row, (Copy, Reckon, Say)):
        return {(past, "plain", (at,))}
    if isinstance(row, Leave):
        return {(("way", function.name, row.way), "leave", (at,))}
    if isinstance(row, If):
        begins = {(("in", row.place, number), "branch", (at,)) for number in (0, 1)}
        return begins | {(past, "join", (("through", row.place, number),)) for number in (0, 1)}
    if isinstance(row, Stretch):
        return {(("in", row.place, 0), "stretch", (at,)), (past, "join", (("through", row.place, 0),))}
    steps = set()
    for arm in row.arms:
        both = (at, ("way", row.callee, arm.way))
        if isinstance(arm, On):
            steps |= {(("in", arm.place, 0), "on", both), (past, "back", (("through", arm.place, 0),))}
        elif isinstance(arm, Out):
            steps.add((("way", function.name, arm.own), "out", both))
    return steps
