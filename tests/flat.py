"""Codes as plain data, dicts and lists, and what the document says of them told a second time on these."""

import copy

from exitweave.numbers import fault_word, holds, reckoned

# What each field of a step holds; the order is that of the fields.
SHAPES = {
    "Label": {"label": "label"},
    "Move": {"goal": "name", "atom": "name"},
    "Compute": {"goal": "name", "op": "sign", "one": "name", "other": "name", "trap": "label"},
    "Tell": {"atom": "name"},
    "Test": {"sign": "sign", "one": "name", "other": "name", "label": "label"},
    "Jump": {"label": "label"},
    "Summon": {"callee": "callee", "atoms": "names", "arms": "arms"},
    "Handon": {"callee": "callee", "atoms": "names", "ways": "ways"},
    "Enter": {"pairs": "pairs", "zeroed": "names"},
    "Send": {"pairs": "pairs", "label": "label"},
    "Return": {"way": "number", "atoms": "names"},
}
LEADS_ELSEWHERE = ("Jump", "Summon", "Handon", "Send", "Return")


def plain_step(step):
    """The step's kind and fields, a copy of all of them."""
    return {"kind": type(step).__name__, **copy.deepcopy(vars(step))}


def plain_piece(piece):
    told = copy.deepcopy({key: value for key, value in vars(piece).items() if key != "steps"})
    return {**told, "steps": [plain_step(step) for step in piece.steps]}


def plain(code):
    """A code's pieces as plain data."""
    return [plain_piece(piece) for piece in code.pieces]


def mapped(step, name_by, label_by):
    """The step with each name (or atom) and each label put through a function, in the order of the fields."""
    told = dict(step)
    for field, shape in SHAPES[step["kind"]].items():
        value = step[field]
        if shape == "name":
            told[field] = name_by(value)
        elif shape == "names":
            told[field] = [name_by(name) for name in value]
        elif shape == "label":
            told[field] = label_by(value)
        elif shape == "pairs":
            told[field] = [(name_by(goal), name_by(atom)) for goal, atom in value]
        elif shape == "arms":
            told[field] = [arm and (label_by(arm[0]), [name_by(goal) for goal in arm[1]]) for arm in value]
    return told


def labels_in(step):
    seen = []
    mapped(step, lambda name: name, seen.append)
    return [] if step["kind"] == "Label" else seen


def names_in(step):
    seen = []
    mapped(step, seen.append, lambda label: label)
    return sorted({name for name in seen if isinstance(name, str)} - {"fault.0"})


def own_by(prefix):
    return lambda atom: atom if atom == "fault.0" or isinstance(atom, int) else f"{prefix}.{atom}"


def reached(steps):
    """The spots of the steps that can be come to from the first one."""
    spots = {step["label"]: spot for spot, step in enumerate(steps) if step["kind"] == "Label"}
    seen, due = set(), [0]
    while due:
        spot = due.pop()
        if spot < len(steps) and spot not in seen:
            seen.add(spot)
            due += [spots[label] for label in labels_in(steps[spot])]
            if steps[spot]["kind"] not in LEADS_ELSEWHERE:
                due.append(spot + 1)
    return seen


class Dry(Exception):
    """A fuel is to be taken and none is left."""


class Stepper:
    """Does the steps of a code one by one. A handon's frame keeps the frame that it took the place of, so that
    a return goes back over all that were handed on, one by one, and no table is ever made of tables."""

    def __init__(self, code, fuel):
        self.code = code
        self.fuel = fuel
        self.log, self.trace = [], []
        self.frames = self.most = 0
        self.calls = 0
        self.spots = {
            piece["name"]: {step["label"]: spot for spot, step in enumerate(piece["steps"]) if step["kind"] == "Label"}
            for piece in code
        }

    def begun(self, piece, numbers, caller, taken):
        assert len(piece["params"]) == len(numbers)
        return {"piece": piece, "spot": 0, "held": dict(zip(piece["params"], numbers)), "caller": caller, "by": taken}

    def told(self, numbers):
        """(log, last, trace, frames), the trace without Labels."""
        self.frame = self.begun(self.code[0], numbers, None, None)
        self.frames = self.most = 1
        self.last = None
        try:
            for _ in range(1000000):
                if self.last is not None:
                    return (self.log, self.last, self.trace, self.most)
                self.step()
        except Dry:
            return (self.log, ("dry",), self.trace, self.most)
        raise AssertionError("this run does not end")

    def worth(self, atom):
        return self.frame["held"].get(atom, 0) if isinstance(atom, str) else atom

    def worths(self, atoms):
        return [self.worth(atom) for atom in atoms]

    def put(self, goals, values):
        assert len(goals) == len(values), (goals, values)
        self.frame["held"].update(zip(goals, values))

    def burn(self):
        if self.fuel == 0:
            raise Dry()
        self.fuel -= 1
        self.calls += 1

    def lead(self, label):
        self.frame["spot"] = self.spots[self.frame["piece"]["name"]][label]

    def step(self):
        step = self.frame["piece"]["steps"][self.frame["spot"]]
        self.frame["spot"] += 1
        getattr(self, step["kind"].lower())(step)
        if step["kind"] != "Label":
            self.trace.append(step["mark"])

    def label(self, step):
        pass

    def move(self, step):
        self.put([step["goal"]], [self.worth(step["atom"])])

    def compute(self, step):
        well, number = reckoned(step["op"], self.worth(step["one"]), self.worth(step["other"]))
        self.put([step["goal"] if well else "fault.0"], [number])
        if not well:
            self.lead(step["trap"])

    def tell(self, step):
        self.log.append(self.worth(step["atom"]))

    def test(self, step):
        if not holds(step["sign"], self.worth(step["one"]), self.worth(step["other"])):
            self.lead(step["label"])

    def jump(self, step):
        self.lead(step["label"])

    def summon(self, step):
        self.burn()
        callee = [piece for piece in self.code if piece["name"] == step["callee"]][0]
        assert len(step["arms"]) == len(callee["ways"])
        self.frame = self.begun(callee, self.worths(step["atoms"]), self.frame, step)
        self.frames += 1
        self.most = max(self.most, self.frames)

    def handon(self, step):
        self.burn()
        callee = [piece for piece in self.code if piece["name"] == step["callee"]][0]
        assert len(step["ways"]) == len(callee["ways"])
        self.frame = self.begun(callee, self.worths(step["atoms"]), self.frame, step)

    def enter(self, step):
        self.burn()
        values = self.worths([atom for _, atom in step["pairs"]])
        self.put(step["zeroed"], [0] * len(step["zeroed"]))
        self.put([goal for goal, _ in step["pairs"]], values)

    def send(self, step):
        self.put([goal for goal, _ in step["pairs"]], self.worths([atom for _, atom in step["pairs"]]))
        self.lead(step["label"])

    def return_by(self, way, values):
        while self.frame["by"] is not None and self.frame["by"]["kind"] == "Handon":
            way = self.frame["by"]["ways"][way]
            assert way != -1
            self.frame = self.frame["caller"]
        taken = self.frame["by"]
        if taken is None:
            name = self.frame["piece"]["ways"][way]
            self.last = ("fault", fault_word(values[0])) if way == 0 else ("way", name, tuple(values))
            return
        self.frame = self.frame["caller"]
        self.frames -= 1
        label, goals = taken["arms"][way]
        self.put(goals, values)
        self.lead(label)


setattr(Stepper, "return", lambda self, step: self.return_by(step["way"], self.worths(step["atoms"])))


def stepped(code, numbers, fuel):
    """(log, last, trace, frames) of a run of a code, plain data, the trace without Labels."""
    return Stepper(code, fuel).told(numbers)


def straight_in(steps, label, goals, jumped=()):
    """The number of the way to which an arm leads straight, or None."""
    spot = [spot for spot, step in enumerate(steps) if step["kind"] == "Label" and step["label"] == label][0]
    rest = [(place, step) for place, step in enumerate(steps) if place > spot and step["kind"] != "Label"]
    if not rest:
        return None
    place, step = rest[0]
    if step["kind"] == "Jump":
        return None if place in jumped else straight_in(steps, step["label"], goals, jumped + (place,))
    return step["way"] if step["kind"] == "Return" and step["atoms"] == goals else None


def handed_plain(code):
    """Tables handed on."""
    told = []
    for piece in code:
        steps = []
        for step in piece["steps"]:
            if step["kind"] == "Summon":
                ways = [-1 if arm is None else straight_in(piece["steps"], *arm) for arm in step["arms"]]
                if None not in ways:
                    step = {**step, "kind": "Handon", "ways": ways}
                    del step["arms"]
            steps.append(step)
        told.append({**piece, "steps": steps})
    return told


def placed_plain(code):
    """Pieces put in place, the first one that may be, and then the rest of them by the same rule."""
    for piece in code[1:]:
        rows = [
            (host, spot) for host in code for spot, step in enumerate(host["steps"])
            if step.get("callee") == piece["name"]
        ]
        if len(rows) == 1 and rows[0][0] is not piece:
            host, spot = rows[0]
            steps = host["steps"][:spot] + in_place(host["steps"][spot], piece) + host["steps"][spot + 1:]
            others = [{**other, "steps": steps} if other is host else other for other in code if other is not piece]
            return placed_plain(others)
    return code


def in_place(row, piece):
    name = piece["name"]
    zeroed = sorted({told for step in piece["steps"] for told in names_in(step)} - set(piece["params"]))
    told = [{
        "kind": "Enter", "mark": row["mark"],
        "pairs": [(f"{name}.{param}", atom) for param, atom in zip(piece["params"], row["atoms"])],
        "zeroed": [f"{name}.{one}" for one in zeroed],
    }]
    for step in piece["steps"]:
        step = mapped(step, own_by(name), lambda label: f"{name}.{label}")
        told += [step] if step["kind"] not in ("Return", "Handon") else led_back(row, step)
    return told


def led_back(row, step):
    leads = row.get("arms") or [None if way == -1 else way for way in row["ways"]]
    if step["kind"] == "Return":
        lead = leads[step["way"]]
        if lead is None:
            return []
        if row["kind"] == "Handon":
            return [{**step, "way": lead}]
        pairs = list(zip(lead[1], step["atoms"]))
        return [{"kind": "Send", "mark": step["mark"], "pairs": pairs, "label": lead[0]}]
    taken = [None if way == -1 else leads[way] for way in step["ways"]]
    if row["kind"] == "Handon":
        return [{**step, "ways": [-1 if way is None else way for way in taken]}]
    told = {**step, "kind": "Summon", "arms": taken}
    del told["ways"]
    return [told]


def threaded_plain(code):
    """Labels threaded one Jump at a time, again and again, until no label leads to a Jump."""
    told = []
    for piece in code:
        steps = piece["steps"]
        while True:
            behind = behind_labels(steps).items()
            turned = {label: step["label"] for label, step in behind if step is not None and step["kind"] == "Jump"}
            new = [
                step if step["kind"] == "Label" else mapped(step, lambda name: name, lambda label: turned.get(label, label))
                for step in steps
            ]
            if new == steps:
                break
            steps = new
        told.append({**piece, "steps": steps})
    return told


def behind_labels(steps):
    """For each label the step to which it leads."""
    told, latest = {}, None
    for step in reversed(steps):
        if step["kind"] == "Label":
            told[step["label"]] = latest
        else:
            latest = step
    return told


def dropped_plain(code, pick=max):
    """What is idle dropped, one thing at a time, whichever of all idle things is picked."""
    code = [dict(piece) for piece in code]
    while True:
        idle = [(number, spot) for number, piece in enumerate(code) for spot in idle_spots(piece["steps"])]
        idle += [(number, -1) for number in range(1, len(code)) if code[number]["name"] not in led_to(code)]
        if not idle:
            return code
        number, spot = pick(idle)
        if spot == -1:
            del code[number]
        else:
            steps = code[number]["steps"]
            code[number]["steps"] = steps[:spot] + steps[spot + 1:]


def idle_spots(steps):
    come_to = reached(steps)
    used = {label for step in steps for label in labels_in(step)}
    for spot, step in enumerate(steps):
        if step["kind"] == "Label":
            if step["label"] not in used:
                yield spot
        elif spot not in come_to:
            yield spot
        elif step["kind"] == "Jump":
            follow = []
            for other in steps[spot + 1:]:
                if other["kind"] != "Label":
                    break
                follow.append(other["label"])
            if step["label"] in follow:
                yield spot


def led_to(code):
    """The names of the pieces to which the first one leads, its own among them."""
    names = {code[0]["name"]}
    while True:
        calls = {
            step["callee"] for piece in code if piece["name"] in names for step in piece["steps"] if "callee" in step
        }
        if calls <= names:
            return names
        names |= calls


def marks_in(code):
    return [step["mark"] for piece in code for step in piece["steps"]]


def laid_lines(code):
    """The lines of a code's layout."""
    heads, rows = [], []
    for piece in code:
        bare = [step for step in piece["steps"] if step["kind"] != "Label"]
        heads.append(" ".join(map(str, [
            "piece", piece["name"], len(rows), len(piece["params"]), *piece["params"], len(piece["ways"]), *piece["ways"],
        ])))
        numbers = {
            label: len(rows) + next(spot for spot, step in enumerate(bare) if step is target)
            for label, target in behind_labels(piece["steps"]).items()
        }
        rows += [mapped(step, lambda name: name, numbers.get) for step in bare]
    return heads + [" ".join(map(str, [row["kind"].lower(), *row["mark"], *row_words(row)])) for row in rows]


def row_words(row):
    for field, shape in SHAPES[row["kind"]].items():
        value = row[field]
        if shape in ("names", "ways"):
            yield from [len(value), *value]
        elif shape == "pairs":
            yield from [len(value), *[word for pair in value for word in pair]]
        elif shape == "arms":
            yield len(value)
            for arm in value:
                yield from ["-"] if arm is None else [arm[0], len(arm[1]), *arm[1]]
        else:
            yield value
