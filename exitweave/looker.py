"""What may come of a program, whatever numbers a run has: facts, and chains of steps that bear them."""

from exitweave.errors import Forgotten
from exitweave.trees import Call, If, Leave, On, Out, Stretch, walk_rows


class Looker:
    """Looks at one program: its facts, and what they tell of its functions, rows, arms and calls."""

    def __init__(self, program):
        self.program = program
        self.chain = least_chain(steps_of(program))
        self.known = {}
        for fact, rule, premises in self.chain:
            self.known[fact] = True

    def facts(self):
        """All facts, as a chain with one step for each."""
        return list(self.chain)

    def found(self, name):
        """The ways by which the function of this name may be left, in the order of its ways."""
        function = self.program.function(name)
        return [way for way in function.all_ways() if ("way", name, way) in self.known]

    def at(self, place):
        """Whether the row of this place is come to."""
        return ("at", place) in self.known

    def in_vain(self):
        """The places of all arms that no run can take, rising."""
        places = []
        for call in calls_of(self.program):
            for arm in call.arms:
                if not self.at(call.place) or ("way", call.callee, arm.way) not in self.known:
                    places.append(arm.place)
        return sorted(places)

    def chain_for(self, fact):
        """A chain that bears this fact and has nothing in it but what is needed; None where it is no fact."""
        return self.chain_for_all([fact]) if fact in self.known else None

    def chain_for_all(self, facts):
        """A chain that bears all these facts of the program, and has nothing in it but what is needed."""
        needed = {}
        for fact in facts:
            needed[fact] = True
        picked = []
        # Backwards: each premise stands ahead, so whatever needs a fact is seen ahead of its own step.
        for step in reversed(self.chain):
            if step[0] in needed:
                picked.append(step)
                for premise in step[2]:
                    needed[premise] = True
        return list(reversed(picked))

    def forgotten(self):
        """The place and the way of what is lacking first; None where nothing is."""
        lacking = self.lacking()
        return None if lacking is None else (lacking[0].place, lacking[1])

    def lacking(self):
        """The first call that is come to and has no arm for a way found, with that way; None where there is none."""
        for call in calls_of(self.program):
            armed = [arm.way for arm in call.arms]
            for way in self.found(call.callee):
                if way not in armed and self.at(call.place):
                    return (call, way)
        return None


def bears(program, chain):
    """Whether each step of the chain is one of the program's, and each premise the fact of a step ahead of it."""
    steps = {}
    for step in steps_of(program):
        steps[step] = True
    borne = {}
    for step in chain:
        if step not in steps or not all([premise in borne for premise in step[2]]):
            return False
        borne[step[0]] = True
    return True


def judged(program):
    """A looker at the program, which is refused where it forgets an arm."""
    looker = Looker(program)
    lacking = looker.lacking()
    if lacking is not None:
        call = lacking[0]
        way = lacking[1]
        raise Forgotten(call.place, way, looker.chain_for_all([("at", call.place), ("way", call.callee, way)]))
    return looker


def calls_of(program):
    """All calls of a program, by their places."""
    calls = []
    for function in program.functions:
        calls.extend([row for row in walk_rows(function.rows) if isinstance(row, Call)])
    return sorted(calls, key=lambda call: call.place)


def least_chain(steps):
    """A chain of some of the steps that bears each fact that follows by them, each fact in one step."""
    resting = {}
    for step in steps:
        for premise in step[2]:
            resting.setdefault(premise, []).append(step)
    chain = []
    known = {}
    due = [step for step in steps if not step[2]]
    asked = 0
    while asked < len(due):
        step = due[asked]
        asked = asked + 1
        # A step is due once for each premise that comes to be known, so it is asked behind the last of them, too.
        if step[0] not in known and all([premise in known for premise in step[2]]):
            known[step[0]] = True
            chain.append(step)
            due.extend(resting.get(step[0], []))
    return chain


def steps_of(program):
    """All steps of a program, as tuples (fact, rule, premises)."""
    steps = []
    for function in program.functions:
        name = function.name
        place = function.place
        steps.append((("in", place, 0), "body", ()))
        steps.extend(block_steps(name, place, 0, function.rows))
        steps.append((("way", name, "end"), "end", (("through", place, 0),)))
    return steps


def block_steps(name, place, number, rows):
    """The steps of a block in the function of this name: from its begin over its rows to its end."""
    spots = [("at", row.place) for row in rows] + [("through", place, number)]
    steps = [(spots[0], "first", (("in", place, number),))]
    for row, follower in zip(rows, spots[1:]):
        steps.extend(row_steps(name, row))
        steps.append((follower, "next", (("past", row.place),)))
    return steps


def row_steps(name, row):
    """The steps of a row in the function of this name, with those of its blocks."""
    if isinstance(row, Call):
        return call_steps(name, row)
    if isinstance(row, If):
        return nested_steps(name, row, "branch")
    if isinstance(row, Stretch):
        return nested_steps(name, row, "stretch")
    if isinstance(row, Leave):
        return [(("way", name, row.way), "leave", (("at", row.place),))]
    return [(("past", row.place), "plain", (("at", row.place),))]


def nested_steps(name, row, rule):
    """The steps of an if or a stretch, whose blocks are begun by the rule."""
    steps = []
    for place, number, rows in row.blocks():
        steps.append((("in", place, number), rule, (("at", row.place),)))
        steps.extend(block_steps(name, place, number, rows))
        steps.append((("past", row.place), "join", (("through", place, number),)))
    return steps


def call_steps(name, call):
    """The steps of a call and its arms; an arm `again` has none."""
    steps = []
    for arm in call.arms:
        premises = (("at", call.place), ("way", call.callee, arm.way))
        if isinstance(arm, Out):
            steps.append((("way", name, arm.own), "out", premises))
        elif isinstance(arm, On):
            steps.append((("in", arm.place, 0), "on", premises))
            steps.extend(block_steps(name, arm.place, 0, arm.rows))
            steps.append((("past", call.place), "back", (("through", arm.place, 0),)))
    return steps
