"""The machine that does layouts."""

from exitweave.code import FAULT_NAME, Compute, Enter, Handon, Jump, Move, Return, Send, Summon, Tell, is_call
from exitweave.holder import Holder
from exitweave.numbers import check_run, holds, last_of, reckoned


class Trip:
    """What is told of a run: its log, its last, its trace, its frames."""

    def __init__(self, log, last, trace, frames):
        self.log = log
        self.last = last
        self.trace = trace
        self.frames = frames


class Machine:
    """Does one layout, as often as it is asked to."""

    def __init__(self, layout):
        self.layout = layout

    def run(self, numbers, fuel):
        """A whole run, from the first row of the first piece on."""
        check_run(numbers, len(self.layout.entries[0][2]), fuel)
        journey = Journey(self.layout, numbers, fuel)
        while journey.last is None:
            journey.go()
        return Trip(journey.log, journey.last, journey.trace, journey.most)


class Frame(Holder):
    """Numbers by names, and a table: for each way of a piece an entry (row, goals), or None."""

    def __init__(self, params, numbers, table):
        Holder.__init__(self, params, numbers)
        self.table = table


class Journey:
    """A run on its way: the pile of frames, the number of the row that is due, and what is told of it so far."""

    def __init__(self, layout, numbers, fuel):
        self.rows = layout.rows
        self.pieces = {}
        for entry in layout.entries:
            self.pieces[entry[0]] = entry
        first = layout.entries[0]
        self.ways = first[3]
        self.due = first[1]
        table = [(-1 - number, []) for number in range(len(self.ways))]
        self.pile = [Frame(first[2], numbers, table)]
        self.most = 1
        self.fuel = fuel
        self.log = []
        self.trace = []
        self.last = None

    def go(self):
        """Does the row that is due; where it needs a fuel and none is left, the run is over ahead of it."""
        row = self.rows[self.due]
        if is_call(row) or isinstance(row, Enter):
            if self.fuel == 0:
                self.last = ("dry",)
                return
            self.fuel = self.fuel - 1
        self.trace.append(row.mark)
        self.due = self.due + 1
        if is_call(row):
            self.do_call(row)
        elif isinstance(row, Return):
            self.do_return(row)
        else:
            self.do_within(self.pile[-1], row)

    def do_within(self, frame, row):
        """Does a row by which the topmost frame stays the topmost one."""
        if isinstance(row, Move):
            frame.put([row.goal], [frame.worth(row.atom)])
        elif isinstance(row, Tell):
            self.log.append(frame.worth(row.atom))
        elif isinstance(row, Compute):
            self.do_compute(frame, row)
        elif isinstance(row, Jump):
            self.due = row.label
        elif isinstance(row, Send):
            put_pairs(frame, row.pairs, [])
            self.due = row.label
        elif isinstance(row, Enter):
            put_pairs(frame, row.pairs, row.zeroed)
        elif not holds(row.sign, frame.worth(row.one), frame.worth(row.other)):
            self.due = row.label

    def do_compute(self, frame, row):
        """Puts a result; at a fault the fault's number, and goes on at the trap."""
        result = reckoned(row.op, frame.worth(row.one), frame.worth(row.other))
        if result[0]:
            frame.put([row.goal], [result[1]])
        else:
            frame.put([FAULT_NAME], [result[1]])
            self.due = row.trap

    def do_call(self, row):
        """Puts a frame upon the pile, or, for a handon, in the place of the topmost one."""
        frame = self.pile[-1]
        table = row.arms if isinstance(row, Summon) else handed_table(frame.table, row.ways)
        if isinstance(row, Handon):
            self.pile.pop()
        entry = self.pieces[row.callee]
        self.pile.append(Frame(entry[2], frame.worths(row.atoms), table))
        self.most = max(self.most, len(self.pile))
        self.due = entry[1]

    def do_return(self, row):
        """Takes the topmost frame off, and goes on by the one entry of its table that is read."""
        frame = self.pile.pop()
        values = frame.worths(row.atoms)
        entry = frame.table[row.way]
        if entry[0] < 0:
            self.last = last_of(self.ways[-1 - entry[0]], tuple(values))
        else:
            self.pile[-1].put(entry[1], values)
            self.due = entry[0]


def put_pairs(frame, pairs, zeroed):
    """Reads the atoms of all pairs, makes names 0, then puts the worths by their goals."""
    values = frame.worths([atom for goal, atom in pairs])
    frame.put(zeroed, [0] * len(zeroed))
    frame.put([goal for goal, atom in pairs], values)


def handed_table(table, ways):
    """The entries of a table for the ways that are handed on, None for -1."""
    return [None if way == -1 else table[way] for way in ways]
