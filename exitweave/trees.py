"""Programs as trees: rows, arms, functions, and the text that they are written as."""


class Row:
    """A row of a function; each kind of row has its lines(depth)."""

    def __init__(self, place):
        self.place = place

    def blocks(self):
        """The row's own blocks, as tuples (place, number, rows); most rows have none."""
        return []


class Copy(Row):
    """Puts an atom's number into a variable."""

    def __init__(self, place, goal, atom):
        Row.__init__(self, place)
        self.goal = goal
        self.atom = atom

    def lines(self, depth):
        """The row's one line."""
        return [line_at(depth, [self.goal, "=", self.atom])]


class Reckon(Row):
    """Puts the sum, difference, product or quotient of two atoms into a variable."""

    def __init__(self, place, goal, op, one, other):
        Row.__init__(self, place)
        self.goal = goal
        self.op = op
        self.one = one
        self.other = other

    def lines(self, depth):
        """The row's one line."""
        return [line_at(depth, [self.goal, "=", self.one, self.op, self.other])]


class Say(Row):
    """Adds an atom's number to the log."""

    def __init__(self, place, atom):
        Row.__init__(self, place)
        self.atom = atom

    def lines(self, depth):
        """The row's one line."""
        return [line_at(depth, ["say", self.atom])]


class Leave(Row):
    """Leaves the function by one of its ways, with the numbers of atoms."""

    def __init__(self, place, way, atoms):
        Row.__init__(self, place)
        self.way = way
        self.atoms = list(atoms)

    def lines(self, depth):
        """The row's one line."""
        return [line_at(depth, ["leave", self.way] + self.atoms)]


class If(Row):
    """Does the one list of rows where the sign holds of two atoms, the other one where not."""

    def __init__(self, place, sign, one, other, then, orelse):
        Row.__init__(self, place)
        self.sign = sign
        self.one = one
        self.other = other
        self.then = list(then)
        self.orelse = list(orelse)

    def blocks(self):
        """Both blocks, also where they have no rows."""
        return [(self.place, 0, self.then), (self.place, 1, self.orelse)]

    def lines(self, depth):
        """The line of the if, its first rows, the line `else`, its other rows."""
        head = line_at(depth, ["if", self.one, self.sign, self.other])
        held = [head] + lines_of(self.then, depth + 1)
        return held + [line_at(depth, ["else"])] + lines_of(self.orelse, depth + 1)


class Stretch(Row):
    """Rows with clean-up rows that are done whichever way the stretch is left."""

    def __init__(self, place, rows, clean_place, clean):
        Row.__init__(self, place)
        self.rows = list(rows)
        self.clean_place = clean_place
        self.clean = list(clean)

    def blocks(self):
        """The block of its rows; the clean-up rows are no block."""
        return [(self.place, 0, self.rows)]

    def lines(self, depth):
        """The line of the stretch, its rows, the line `clean`, its clean-up rows."""
        entered = [line_at(depth, ["stretch"])] + lines_of(self.rows, depth + 1)
        return entered + [line_at(depth, ["clean"])] + lines_of(self.clean, depth + 1)


class Call(Row):
    """Begins a function, with arms for the ways by which that is left."""

    def __init__(self, place, callee, atoms, arms):
        Row.__init__(self, place)
        self.callee = callee
        self.atoms = list(atoms)
        self.arms = list(arms)

    def blocks(self):
        """The blocks of the `on` arms, in their order."""
        return [(arm.place, 0, arm.rows) for arm in self.arms if isinstance(arm, On)]

    def lines(self, depth):
        """The line of the call, and its arms."""
        head = line_at(depth, ["call", self.callee] + self.atoms)
        return [head] + lines_of(self.arms, depth + 1)


class Arm:
    """Where a call leads by a way of the function called; each kind of arm has its lines(depth)."""

    def __init__(self, place, way):
        self.place = place
        self.way = way


class On(Arm):
    """Puts the way's values into variables, does rows, and goes on behind the call."""

    def __init__(self, place, way, goals, rows):
        Arm.__init__(self, place, way)
        self.goals = list(goals)
        self.rows = list(rows)

    def lines(self, depth):
        """The line of the arm, and its rows."""
        return [line_at(depth, ["on", self.way] + self.goals)] + lines_of(self.rows, depth + 1)


class Out(Arm):
    """Leaves the caller by a way of its own, with the same values."""

    def __init__(self, place, way, own):
        Arm.__init__(self, place, way)
        self.own = own

    def lines(self, depth):
        """The arm's one line."""
        return [line_at(depth, ["out", self.way, self.own])]


class Again(Arm):
    """Puts the way's values into variables, and does the call once more."""

    def __init__(self, place, way, goals):
        Arm.__init__(self, place, way)
        self.goals = list(goals)

    def lines(self, depth):
        """The arm's one line."""
        return [line_at(depth, ["again", self.way] + self.goals)]


class Function:
    """A function: its parameters, its declared ways as tuples (name, count), its body."""

    def __init__(self, place, name, params, ways, rows):
        self.place = place
        self.name = name
        self.params = list(params)
        self.ways = list(ways)
        self.rows = list(rows)

    def every_way(self):
        """All ways in order, with their counts: first the two that are never declared."""
        return [("fault", 1), ("end", 0)] + self.ways

    def count_of(self, way):
        """How many values the way has, None where there is no such way."""
        for name, count in self.every_way():
            if name == way:
                return count
        return None

    def all_ways(self):
        """The names of all ways, in order."""
        return [name for name, count in self.every_way()]

    def lines(self, depth):
        """The function's line, those of its declared ways, and its body."""
        head = line_at(depth, ["fun", self.name] + self.params)
        declared = [line_at(depth + 1, ["way", name, count]) for name, count in self.ways]
        return [head] + declared + lines_of(self.rows, depth + 1)


class Program:
    """A list of functions, the first of which is run."""

    def __init__(self, functions):
        self.functions = list(functions)

    def function(self, name):
        """The function of this name, the first one of several, None where there is none."""
        for function in self.functions:
            if function.name == name:
                return function
        return None

    def text(self):
        """The program as a text."""
        return "\n".join(lines_of(self.functions, 0))


def walk_rows(rows):
    """All the rows, with those in their blocks and clean-up rows, in the order of their lines."""
    walked = []
    for row in rows:
        walked.append(row)
        for block in row.blocks():
            walked.extend(walk_rows(block[2]))
        if isinstance(row, Stretch):
            walked.extend(walk_rows(row.clean))
    return walked


def arm_for(call, way):
    """The call's arm for the way, where it has one."""
    return [arm for arm in call.arms if arm.way == way][0]


def line_at(depth, words):
    """One line of these words, texts or whole numbers, at a depth."""
    return "  " * depth + " ".join([str(word) for word in words])


def lines_of(parts, depth):
    """The lines of rows, arms or functions, one behind the other, all at one depth."""
    told = []
    for part in parts:
        told.extend(part.lines(depth))
    return told
