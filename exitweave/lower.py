"""Programs put as codes."""

from exitweave.code import Code, Compute, Jump, Label, Move, Piece, Return, Send, Summon, Tell, Test
from exitweave.looker import judged
from exitweave.trees import Call, Copy, If, Leave, On, Out, Reckon, Stretch, arm_for


def lowered(program):
    """The program as a code, a piece for each function; a program that forgets an arm is refused."""
    looker = judged(program)
    return Code([piece_of(looker, function) for function in program.functions])


def piece_of(looker, function):
    """The function as a piece."""
    flattener = Flattener(looker, function)
    flattener.put_body()
    flattener.put_exits()
    return Piece(function.name, function.params, function.all_ways(), flattener.steps)


class Flattener:
    """Puts the rows of one function as steps, one behind the other, as far as they are come to."""

    def __init__(self, looker, function):
        self.looker = looker
        self.owner = function
        self.steps = []
        self.within = []
        self.exits = {}
        self.due = []

    def next_mark(self):
        """The mark of the step that is put next."""
        return (self.owner.name, len(self.steps))

    def put_label(self, label):
        """A place to go on at."""
        self.steps.append(Label(self.next_mark(), label))

    def put_jump(self, label):
        """Leads on to a label."""
        self.steps.append(Jump(self.next_mark(), label))

    def put_return(self, way, atoms):
        """Leaves the function by the way, all stretches being cleaned."""
        self.steps.append(Return(self.next_mark(), self.owner.all_ways().index(way), atoms))

    def put_body(self):
        """The function's rows, and its way out behind them."""
        self.put_rows(self.owner.rows)
        if self.goes_through(self.owner.place, 0):
            self.put_return("end", [])

    def goes_through(self, place, number):
        """Whether the end of the block is come to."""
        return ("through", place, number) in self.looker.known

    def put_rows(self, rows):
        """The rows that are come to, one behind the other."""
        for row in rows:
            if self.looker.at(row.place):
                self.put_row(row)

    def put_row(self, row):
        """A row of whatever kind."""
        if isinstance(row, If):
            self.put_if(row)
        elif isinstance(row, Stretch):
            self.put_stretch(row)
        elif isinstance(row, Call):
            self.put_call(row)
        elif isinstance(row, Leave):
            self.put_leave(row)
        elif isinstance(row, Reckon):
            trap = self.exit_label(self.within, "fault")
            self.steps.append(Compute(self.next_mark(), row.goal, row.op, row.one, row.other, trap))
        else:
            self.put_plain(row)

    def put_plain(self, row):
        """A copy or a saying: what clean-up rows may be, too."""
        if isinstance(row, Copy):
            self.steps.append(Move(self.next_mark(), row.goal, row.atom))
        else:
            self.steps.append(Tell(self.next_mark(), row.atom))

    def put_clean(self, stretch):
        """The clean-up rows of a stretch; facts tell nothing of them."""
        for row in stretch.clean:
            self.put_plain(row)

    def put_if(self, row):
        """A choice: its first rows, then its other ones, both leading on behind it."""
        other = label_at("else", row.place)
        behind = label_at("behind", row.place)
        self.steps.append(Test(self.next_mark(), row.sign, row.one, row.other, other))
        self.put_rows(row.then)
        held = self.goes_through(row.place, 0)
        if held:
            self.put_jump(behind)
        self.put_label(other)
        self.put_rows(row.orelse)
        if held:
            self.put_label(behind)

    def put_stretch(self, row):
        """A stretch as far as its own end; where something leaves through it, it is cleaned elsewhere."""
        self.within.append(row)
        self.put_rows(row.rows)
        self.within.pop()
        if self.goes_through(row.place, 0):
            self.put_clean(row)

    def put_leave(self, row):
        """A leave; within stretches its values wait for the clean-up rows, by names of their own."""
        if not self.within:
            self.put_return(row.way, row.atoms)
            return
        label = self.exit_label(self.within, row.way)
        if row.atoms:
            pairs = list(zip(self.value_names(row.way), row.atoms))
            self.steps.append(Send(self.next_mark(), pairs, label))
        else:
            self.put_jump(label)

    def put_call(self, call):
        """A call, and behind it the rows of those of its arms that are taken."""
        self.put_label(label_at("call", call.place))
        ways = self.looker.program.function(call.callee).all_ways()
        taken = ["fault"] + self.looker.found(call.callee)
        arms = [self.flat_arm(call, way) if way in taken else None for way in ways]
        self.steps.append(Summon(self.next_mark(), call.callee, call.atoms, arms))
        behind = label_at("behind", call.place)
        for arm in call.arms:
            if isinstance(arm, On) and arm.way in taken:
                self.put_on(arm, behind)
        if ("past", call.place) in self.looker.known:
            self.put_label(behind)

    def put_on(self, arm, behind):
        """The rows of an arm `on`, which lead on behind its call."""
        self.put_label(label_at("on", arm.place))
        self.put_rows(arm.rows)
        if self.goes_through(arm.place, 0):
            self.put_jump(behind)

    def flat_arm(self, call, way):
        """Where the call leads by a way that is taken, as a tuple (label, goals); a fault leads out always."""
        if way == "fault":
            return self.way_out("fault")
        arm = arm_for(call, way)
        if isinstance(arm, Out):
            return self.way_out(arm.own)
        if isinstance(arm, On):
            return (label_at("on", arm.place), arm.goals)
        return (label_at("call", call.place), arm.goals)

    def way_out(self, way):
        """An arm that leaves the function by the way."""
        return (self.exit_label(self.within, way), self.value_names(way))

    def value_names(self, way):
        """The names by which the values of a way are put where they can't be read at once."""
        return [f"{way}.{number}" for number in range(self.owner.count_of(way))]

    def exit_label(self, stretches, way):
        """The label at which the function is left by the way, through stretches, the innermost one last."""
        label = label_at(f"clean.{way}", stretches[-1].place) if stretches else f"leave.{way}"
        if label not in self.exits:
            self.exits[label] = True
            self.due.append((label, list(stretches), way))
        return label

    def put_exits(self):
        """All exits that are led to; each of them may lead to another one."""
        while self.due:
            leaving = self.due.pop(0)
            self.put_label(leaving[0])
            self.put_exit(leaving[1], leaving[2])

    def put_exit(self, stretches, way):
        """What is done where the function is left by the way: the innermost stretch is cleaned, then the others."""
        if stretches:
            self.put_clean(stretches[-1])
            self.put_jump(self.exit_label(stretches[:-1], way))
        else:
            self.put_return(way, self.value_names(way))


def label_at(word, place):
    """What a label is called."""
    return f"{word}.{place}"
