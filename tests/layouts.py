"""Which texts are layouts, told a second time; and texts of layouts that were spoilt by a seed."""

import random
import re

from oracles import NAME

NUMBER = r"(?:0|[1-9][0-9]{0,11})"
FRAME = rf"(?:{NAME}|fault)(?:\.(?:{NAME}|[0-9]))*"
WORDS = {
    "NAME": NAME, "F": NAME, "CALLEE": NAME, "PARAM": NAME, "OWN": "[a-z]+", "K": NUMBER, "ROW": NUMBER, "WAY": NUMBER,
    "LEAD": rf"(?:-1|{NUMBER})", "SIGN": r"[-+*/]", "ORDER": "[<=]", "GOAL": FRAME, "ZEROED": FRAME,
    "ATOM": rf"(?:0|-?[1-9][0-9]{{0,11}}|{FRAME})",
}
# A star stands ahead of what has its count ahead.
FORMS = {
    "piece": "NAME ROW *PARAM *OWN",
    "move": "F K GOAL ATOM",
    "compute": "F K GOAL SIGN ATOM ATOM ROW",
    "tell": "F K ATOM",
    "test": "F K ORDER ATOM ATOM ROW",
    "jump": "F K ROW",
    "summon": "F K CALLEE *ATOM *ARM",
    "handon": "F K CALLEE *ATOM *LEAD",
    "enter": "F K *PAIR *ZEROED",
    "send": "F K *PAIR ROW",
    "return": "F K WAY *ATOM",
}
LEADS_ON = ("move", "compute", "tell", "test", "enter")


class Wrong(Exception):
    """A line has not its form."""


def word_of(rest, kind):
    if not rest or not re.fullmatch(WORDS[kind], rest[0]):
        raise Wrong()
    return rest.pop(0)


def part_of(rest, kind):
    if kind == "PAIR":
        return (word_of(rest, "GOAL"), word_of(rest, "ATOM"))
    if kind == "ARM":
        if rest[:1] == ["-"]:
            return rest.pop(0)
        return (word_of(rest, "ROW"), counted_of(rest, "GOAL"))
    return word_of(rest, kind)


def counted_of(rest, kind):
    count = int(word_of(rest, "ROW"))
    if count > len(rest):
        raise Wrong()
    return [part_of(rest, kind) for _ in range(count)]


def parts_of(line):
    """(word, kinds, parts) of a line that has its form."""
    rest = line.split(" ")
    word = rest.pop(0)
    if word not in FORMS:
        raise Wrong()
    kinds = FORMS[word].split(" ")
    parts = [counted_of(rest, kind[1:]) if kind[0] == "*" else part_of(rest, kind) for kind in kinds]
    if rest:
        raise Wrong()
    return word, kinds, parts


def once(things):
    return len(things) == len(set(things))


def layout_verdict(text):
    """The place at which a text is refused as a layout, None where it is one."""
    lines = text.split("\n")
    heads = 0
    while heads < len(lines) and lines[heads].split(" ")[0] == "piece":
        heads += 1
    if not heads:
        return 1
    count = len(lines) - heads
    entries = []
    for place, line in enumerate(lines[:heads], 1):
        try:
            _, _, (name, row, params, ways) = parts_of(line)
        except Wrong:
            return place
        fits = [
            once(params), once(ways), ways[:2] == ["fault", "end"], all(re.fullmatch(NAME, way) for way in ways[2:]),
            name not in [entry[0] for entry in entries], len(params) <= 4, 2 <= len(ways) <= 10,
            int(row) == 0 if not entries else entries[-1][1] < int(row) < count,
        ]
        if not all(fits):
            return place
        entries.append((name, int(row), len(params), len(ways)))
    if not count:
        return heads + 1
    marks = set()
    for number, line in enumerate(lines[heads:]):
        try:
            if not all(row_fits(number, parts_of(line), entries, marks, count)):
                return heads + number + 1
        except Wrong:
            return heads + number + 1
    return None


def row_fits(number, told, entries, marks, count):
    word, kinds, parts = told
    spot = max(spot for spot, entry in enumerate(entries) if entry[1] <= number)
    end = entries[spot + 1][1] if spot + 1 < len(entries) else count
    yield word != "piece"
    yield tuple(parts[:2]) not in marks
    marks.add(tuple(parts[:2]))
    yield not (number == end - 1 and word in LEADS_ON)
    for kind, part in zip(kinds, parts):
        rows = []
        if kind == "ROW":
            rows = [part]
        elif kind == "*ARM":
            arms = [arm for arm in part if arm != "-"]
            rows = [arm[0] for arm in arms]
            yield all(once(arm[1]) for arm in arms)
        elif kind == "WAY":
            yield int(part) < entries[spot][3]
        elif kind == "*LEAD":
            yield all(int(way) < entries[spot][3] for way in part)
        elif kind == "*PAIR":
            yield once([goal for goal, _ in part])
        elif kind == "*ZEROED":
            yield once(part)
        elif kind == "CALLEE":
            callees = [entry for entry in entries if entry[0] == part]
            yield callees and (callees[0][2], callees[0][3]) == (len(parts[3]), len(parts[4]))
        yield all(entries[spot][1] <= int(row) < end for row in rows)


def spoilt_layout(text, seed):
    """The text changed in its words or lines at one or two places; it may be a layout's still."""
    chance = random.Random(seed)
    lines = text.split("\n")
    for _ in range(chance.randint(1, 2)):
        spot, other = chance.randrange(len(lines)), chance.randrange(len(lines))
        words = lines[spot].split(" ")
        place = chance.randrange(len(words))
        change = chance.randint(0, 8)
        if change <= 3:
            words[place] = chance.choice([
                "0", "1", "2", "3", "-1", "-", "00", "7", "12", "x", "fault", "end", "g", "f", "fault.0", "x.1", "x.10",
                "g.x", "1234567890123", "=", "<", "+", "", "piece", "jump", "x.", ".x", "g.fault.0", "end.0", "-0", "-5",
            ])
        elif change == 4:
            words.insert(place, chance.choice(["x", "0", "1", "-", ""]))
        elif change == 5:
            del words[place]
        elif change == 6:
            words[place] = chance.choice(" ".join(lines).split(" "))
        lines[spot] = " ".join(words)
        if change == 7:
            lines[spot], lines[other] = lines[other], lines[spot]
        elif change == 8:
            chance.choice([lambda: lines.insert(other, lines[spot]), lambda: lines.pop(spot) if lines[1:] else None])()
    return "\n".join(lines)
