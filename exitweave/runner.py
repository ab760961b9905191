"""Runs of a program as it stands."""

from exitweave.holder import Holder
from exitweave.looker import judged
from exitweave.numbers import check_run, holds, last_of, reckoned
from exitweave.trees import Call, Copy, If, Leave, On, Out, Reckon, Stretch, arm_for


class Run:
    """What is told of a run: its log, its last, its marks."""

    def __init__(self, log, last, marks):
        self.log = log
        self.last = last
        self.marks = marks


def run_trees(program, numbers, fuel):
    """A whole run of the program, from the begin of its first function on."""
    judged(program)
    first = program.functions[0]
    check_run(numbers, len(first.params), fuel)
    runner = Runner(program, fuel)
    runner.begin(first, numbers)
    while runner.last is None:
        runner.go()
    return Run(runner.log, runner.last, runner.marks)


class Spot:
    """Rows that are being done, how many of them were begun, and the stretch whose rows they are, or None."""

    def __init__(self, rows, stretch):
        self.rows = rows
        self.begun = 0
        self.stretch = stretch


class Visit(Holder):
    """A function that was begun and is not left yet: its variables, its spots, the innermost last, its latest call."""

    def __init__(self, function, numbers):
        Holder.__init__(self, function.params, numbers)
        self.name = function.name
        self.spots = [Spot(function.rows, None)]
        self.call = None


class Runner:
    """A run on its way. Visits are piled up in a list, since as many as the fuel may stand within one another."""

    def __init__(self, program, fuel):
        self.program = program
        self.fuel = fuel
        self.visits = []
        self.leaving = None
        self.log = []
        self.marks = []
        self.last = None

    def begin(self, function, numbers):
        """Begins a function, within those that were begun ahead."""
        self.visits.append(Visit(function, numbers))

    def go(self):
        """Does the next thing: leaves the innermost function, does a row of it, or ends a list of rows in it."""
        visit = self.visits[-1]
        spot = visit.spots[-1]
        if self.leaving is not None:
            self.leave(visit)
        elif spot.begun < len(spot.rows):
            spot.begun = spot.begun + 1
            self.do_row(visit, spot.rows[spot.begun - 1])
        elif len(visit.spots) == 1:
            self.leaving = ("end", ())
        else:
            visit.spots.pop()
            self.clean_up(visit, spot)

    def do_row(self, visit, row):
        """Begins a row; rows within it are left to be done next."""
        if isinstance(row, If):
            held = holds(row.sign, visit.worth(row.one), visit.worth(row.other))
            visit.spots.append(Spot(row.then if held else row.orelse, None))
        elif isinstance(row, Stretch):
            self.marks.append(("enter", row.place))
            visit.spots.append(Spot(row.rows, row))
        elif isinstance(row, Call):
            visit.call = row
            self.do_call(visit)
        elif isinstance(row, Leave):
            self.leaving = (row.way, tuple(visit.worths(row.atoms)))
        elif isinstance(row, Reckon):
            self.do_reckon(visit, row)
        else:
            self.do_plain(visit, row)

    def do_plain(self, visit, row):
        """A copy or a saying: what clean-up rows may be, too."""
        if isinstance(row, Copy):
            visit.put([row.goal], [visit.worth(row.atom)])
        else:
            self.log.append(visit.worth(row.atom))

    def do_reckon(self, visit, row):
        """A reckoning; at a fault its goal stays as it was."""
        result = reckoned(row.op, visit.worth(row.one), visit.worth(row.other))
        if result[0]:
            visit.put([row.goal], [result[1]])
        else:
            self.leaving = ("fault", (result[1],))

    def do_call(self, visit):
        """Begins the function that the visit's call calls, if there is fuel left."""
        if self.fuel == 0:
            self.last = ("dry",)
            return
        self.fuel = self.fuel - 1
        call = visit.call
        self.marks.append(("call", call.callee))
        self.begin(self.program.function(call.callee), visit.worths(call.atoms))

    def leave(self, visit):
        """Cleans up what the visit is still in, leaves it, and follows the way that was chosen."""
        for spot in reversed(visit.spots):
            self.clean_up(visit, spot)
        way = self.leaving[0]
        values = self.leaving[1]
        self.leaving = None
        self.marks.append(("way", visit.name, way))
        self.visits.pop()
        if self.visits:
            self.follow(self.visits[-1], way, values)
        else:
            self.last = last_of(way, values)

    def clean_up(self, visit, spot):
        """Does the clean-up rows, where the spot's rows are a stretch's."""
        if spot.stretch is None:
            return
        self.marks.append(("clean", spot.stretch.place))
        for row in spot.stretch.clean:
            self.do_plain(visit, row)

    def follow(self, visit, way, values):
        """Goes on in the visit where its call leads by the way; a fault always leads out."""
        if way == "fault":
            self.leaving = (way, values)
            return
        arm = arm_for(visit.call, way)
        if isinstance(arm, Out):
            self.leaving = (arm.own, values)
        else:
            visit.put(arm.goals, values)
            if isinstance(arm, On):
                visit.spots.append(Spot(arm.rows, None))
            else:
                self.do_call(visit)
