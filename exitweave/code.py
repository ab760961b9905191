"""Codes: pieces of flat steps, one piece for each function."""

FAULT_NAME = "fault.0"


class Step:
    """A step of a piece; each kind of step has its made_again(given, prefix) and its words()."""

    def __init__(self, mark):
        self.mark = mark

    def labels(self):
        """The labels to which the step may lead, in the order of its fields."""
        return []

    def goes_on(self):
        """Whether the step behind this one may be done next by it."""
        return True

    def parts(self):
        """The step's goals, atoms and zeroed names, in any order."""
        return []

    def named(self):
        """The names of the frame that stand in the step, rising, but that of a fault."""
        return sorted(set([part for part in self.parts() if is_own(part)]))

    def relabelled(self, given):
        """The step with other labels, for those that stand in the dict."""
        return self.made_again(given, None)

    def renamed(self, prefix):
        """The step with the prefix and a point ahead of each name that it tells."""
        return self.made_again({}, prefix)


class Label(Step):
    """Does nothing: a place to go on at."""

    def __init__(self, mark, label):
        Step.__init__(self, mark)
        self.label = label

    def made_again(self, given, prefix):
        """The label, by its new name."""
        return Label(self.mark, given.get(self.label, self.label))

    def words(self):
        """None: a label has no line in a layout."""
        return []


class Move(Step):
    """Puts an atom's worth by the goal."""

    def __init__(self, mark, goal, atom):
        Step.__init__(self, mark)
        self.goal = goal
        self.atom = atom

    def parts(self):
        """The goal and the atom."""
        return [self.goal, self.atom]

    def made_again(self, given, prefix):
        """The step with other names."""
        return Move(self.mark, prefixed(prefix, self.goal), prefixed(prefix, self.atom))

    def words(self):
        """The words of the step's line."""
        return line_words("move", self.mark, [self.goal, self.atom])


class Compute(Step):
    """Puts the result of a sign by the goal; at a fault it goes on at the trap."""

    def __init__(self, mark, goal, op, one, other, trap):
        Step.__init__(self, mark)
        self.goal = goal
        self.op = op
        self.one = one
        self.other = other
        self.trap = trap

    def labels(self):
        """The trap."""
        return [self.trap]

    def parts(self):
        """The goal and both atoms."""
        return [self.goal, self.one, self.other]

    def made_again(self, given, prefix):
        """The step with another trap and other names."""
        parts = all_prefixed(prefix, self.parts())
        return Compute(self.mark, parts[0], self.op, parts[1], parts[2], given.get(self.trap, self.trap))

    def words(self):
        """The words of the step's line."""
        return line_words("compute", self.mark, [self.goal, self.op, self.one, self.other, self.trap])


class Tell(Step):
    """Puts an atom's worth behind the log."""

    def __init__(self, mark, atom):
        Step.__init__(self, mark)
        self.atom = atom

    def parts(self):
        """The atom."""
        return [self.atom]

    def made_again(self, given, prefix):
        """The step with another name."""
        return Tell(self.mark, prefixed(prefix, self.atom))

    def words(self):
        """The words of the step's line."""
        return line_words("tell", self.mark, [self.atom])


class Test(Step):
    """Goes on with the next step where the sign holds of both atoms, else at the label."""

    def __init__(self, mark, sign, one, other, label):
        Step.__init__(self, mark)
        self.sign = sign
        self.one = one
        self.other = other
        self.label = label

    def labels(self):
        """The label where the sign does not hold."""
        return [self.label]

    def parts(self):
        """Both atoms."""
        return [self.one, self.other]

    def made_again(self, given, prefix):
        """The step with another label and other names."""
        parts = all_prefixed(prefix, self.parts())
        return Test(self.mark, self.sign, parts[0], parts[1], given.get(self.label, self.label))

    def words(self):
        """The words of the step's line."""
        return line_words("test", self.mark, [self.sign, self.one, self.other, self.label])


class Jump(Step):
    """Goes on at the label."""

    def __init__(self, mark, label):
        Step.__init__(self, mark)
        self.label = label

    def labels(self):
        """The one label."""
        return [self.label]

    def goes_on(self):
        """Never with the next step, but where the label stands there."""
        return False

    def made_again(self, given, prefix):
        """The step with another label."""
        return Jump(self.mark, given.get(self.label, self.label))

    def words(self):
        """The words of the step's line."""
        return line_words("jump", self.mark, [self.label])


class Summon(Step):
    """Does another piece in a frame of its own; arms are tuples (label, goals), or None, one for each way of it."""

    def __init__(self, mark, callee, atoms, arms):
        Step.__init__(self, mark)
        self.callee = callee
        self.atoms = list(atoms)
        self.arms = [arm_again(arm, {}, None) for arm in arms]

    def labels(self):
        """The labels of the arms."""
        return [arm[0] for arm in self.arms if arm is not None]

    def goes_on(self):
        """Only by an arm."""
        return False

    def parts(self):
        """The atoms, and the goals of the arms."""
        parts = list(self.atoms)
        for arm in self.arms:
            if arm is not None:
                parts.extend(arm[1])
        return parts

    def made_again(self, given, prefix):
        """The step with other labels in its arms and other names."""
        arms = [arm_again(arm, given, prefix) for arm in self.arms]
        return Summon(self.mark, self.callee, all_prefixed(prefix, self.atoms), arms)

    def words(self):
        """The words of the step's line."""
        told = [self.callee] + counted(self.atoms) + [len(self.arms)]
        for arm in self.arms:
            told.extend(["-"] if arm is None else [arm[0]] + counted(arm[1]))
        return line_words("summon", self.mark, told)


class Handon(Step):
    """Does another piece in this frame's place; ways has a way of this piece, or -1, for each way of it."""

    def __init__(self, mark, callee, atoms, ways):
        Step.__init__(self, mark)
        self.callee = callee
        self.atoms = list(atoms)
        self.ways = list(ways)

    def goes_on(self):
        """Never: this frame is done with."""
        return False

    def parts(self):
        """The atoms."""
        return list(self.atoms)

    def made_again(self, given, prefix):
        """The step with other names."""
        return Handon(self.mark, self.callee, all_prefixed(prefix, self.atoms), self.ways)

    def words(self):
        """The words of the step's line."""
        return line_words("handon", self.mark, [self.callee] + counted(self.atoms) + counted(self.ways))


class Enter(Step):
    """Begins what was put in place: reads the atoms of its pairs, makes names 0, puts the worths by the goals."""

    def __init__(self, mark, pairs, zeroed):
        Step.__init__(self, mark)
        self.pairs = list(pairs)
        self.zeroed = list(zeroed)

    def parts(self):
        """What stands in the pairs, and the zeroed names."""
        return flat(self.pairs) + self.zeroed

    def made_again(self, given, prefix):
        """The step with other names."""
        return Enter(self.mark, pairs_prefixed(prefix, self.pairs), all_prefixed(prefix, self.zeroed))

    def words(self):
        """The words of the step's line."""
        return line_words("enter", self.mark, [len(self.pairs)] + flat(self.pairs) + counted(self.zeroed))


class Send(Step):
    """Reads the atoms of its pairs, puts the worths by the goals, and goes on at the label."""

    def __init__(self, mark, pairs, label):
        Step.__init__(self, mark)
        self.pairs = list(pairs)
        self.label = label

    def labels(self):
        """The one label."""
        return [self.label]

    def goes_on(self):
        """Never with the next step, but where the label stands there."""
        return False

    def parts(self):
        """What stands in the pairs."""
        return flat(self.pairs)

    def made_again(self, given, prefix):
        """The step with another label and other names."""
        return Send(self.mark, pairs_prefixed(prefix, self.pairs), given.get(self.label, self.label))

    def words(self):
        """The words of the step's line."""
        return line_words("send", self.mark, [len(self.pairs)] + flat(self.pairs) + [self.label])


class Return(Step):
    """The piece returns by the way of this number, with the worths of the atoms."""

    def __init__(self, mark, way, atoms):
        Step.__init__(self, mark)
        self.way = way
        self.atoms = list(atoms)

    def goes_on(self):
        """Never."""
        return False

    def parts(self):
        """The atoms."""
        return list(self.atoms)

    def made_again(self, given, prefix):
        """The step with other names."""
        return Return(self.mark, self.way, all_prefixed(prefix, self.atoms))

    def words(self):
        """The words of the step's line."""
        return line_words("return", self.mark, [self.way] + counted(self.atoms))


class Piece:
    """A function as flat steps: its name, its parameters, the names of all its ways, its steps."""

    def __init__(self, name, params, ways, steps):
        self.name = name
        self.params = list(params)
        self.ways = list(ways)
        self.steps = list(steps)


class Code:
    """A list of pieces, the first of which is run."""

    def __init__(self, pieces):
        self.pieces = list(pieces)

    def piece(self, name):
        """The piece of this name, None where there is none."""
        for piece in self.pieces:
            if piece.name == name:
                return piece
        return None


def is_call(step):
    """Whether the step does another piece."""
    return isinstance(step, (Summon, Handon))


def is_own(atom):
    """Whether the atom is a name that is a piece's own: all pieces put the number of a fault by one name."""
    return isinstance(atom, str) and atom != FAULT_NAME


def prefixed(prefix, atom):
    """The atom with the prefix and a point ahead where it is an own name; as it is where the prefix is None."""
    return prefix + "." + atom if prefix is not None and is_own(atom) else atom


def all_prefixed(prefix, atoms):
    """All the atoms, each prefixed."""
    return [prefixed(prefix, atom) for atom in atoms]


def pairs_prefixed(prefix, pairs):
    """The pairs with both goal and atom prefixed."""
    return [(prefixed(prefix, goal), prefixed(prefix, atom)) for goal, atom in pairs]


def arm_again(arm, given, prefix):
    """The arm with another label and other names, its goals a list of its own."""
    return None if arm is None else (given.get(arm[0], arm[0]), all_prefixed(prefix, arm[1]))


def flat(pairs):
    """Goals and atoms of the pairs, one behind the other."""
    told = []
    for goal, atom in pairs:
        told.extend([goal, atom])
    return told


def counted(things):
    """How many things, and the things."""
    return [len(things)] + things


def line_words(word, mark, told):
    """The words of a step's line in a layout."""
    return [str(part) for part in [word, mark[0], mark[1]] + told]
